"""Deeds that nobody can miss: idle ones, and what is left of a program without them."""

import random

from layerseen.errors import BadProgram, BadStack, TooMany, Unfit
from layerseen.likeness import alike
from layerseen.player import ends
from layerseen.programs import Catch, Choose, Deed, Leave, Program, Stop
from layerseen.slim import Slim, idle, shows_slim, slimmed
from layerseen.stacks import Stack
from tests.support import LayerCase, orders, values
from tests.test_likeness import FEW, OWN, POOL, any_surroundings
from tests.test_player_orders import random_program
from tests.test_tables import small_enough
from tests.test_talks import ORDERS, both, says

WIDE = Stack.read("cell x 2, cell y 3, log l, failure f, failure g, choice")


def idle_by(program, stacks):
    """The paths of the idle deeds, by alike of each program without one deed."""
    return tuple(
        path for path in program.walk()
        if all([alike(program.without(path), program, stack) for stack in stacks])
    )


def slimmed_by(program, stacks):
    paths = []
    while idle_by(program, stacks):
        paths.append(idle_by(program, stacks)[0])
        program = program.without(paths[-1])
    return Slim(program, tuple(paths))


def ways_to_slim(program, stacks):
    """All Slims that show how deeds can be left out until none is idle, in any order."""
    paths = idle_by(program, stacks)
    if not paths:
        return [Slim(program, ())]
    found = []
    for path in paths:
        for rest in ways_to_slim(program.without(path), stacks):
            found.append(Slim(rest.program, (path, *rest.paths)))
    return found


class SlimCase(LayerCase):
    def programs(self, dice, many, depth):
        """Programs with few talks, each with one to three stacks, also the same one twice."""
        while many:
            program = random_program(dice, depth)
            stacks = [dice.choice(ORDERS) for turn in range(dice.choice([1, 1, 2, 3]))]
            if dice.random() < 0.2:
                stacks.append(stacks[0])
            if program.size < 10 and all(small_enough(program, stack, program.cells) for stack in stacks):
                many -= 1
                yield program, stacks


class IdleTest(SlimCase):
    def test_random_programs(self):
        dice = random.Random(91)
        seen = []
        for program, stacks in self.programs(dice, 150, 3):
            found = idle(program, *stacks)
            self.same(found, idle_by(program, stacks))
            seen.append(len(found))
            self.same(idle(program, *stacks[::-1]), found)
            slim = slimmed(program, *stacks)
            self.same(slim, slimmed_by(program, stacks))
            self.same([type(slim), type(slim.paths)], [Slim, tuple])
            self.assertIs(shows_slim(program, slim, *stacks), True)
            self.assertIs(shows_slim(program, Slim(program, ()), *stacks), not found)
            self.same(idle(slim.program, *stacks), ())
            for stack in stacks:
                self.assertTrue(alike(slim.program, program, stack))
        self.assertGreater(len([many for many in seen if many > 1]), 30)
        self.assertGreater(seen.count(0), 20)

    def test_of_the_pool(self):
        dice = random.Random(92)
        for program in POOL:
            for stack in dice.sample(orders(*FEW), 4):
                self.same(idle(program, stack), idle_by(program, [stack]))
                self.same(slimmed(program, stack), slimmed_by(program, [stack]))

    def test_by_hand(self):
        for text, rows, paths, left in [
            ("skip", ["-"], (), "skip"), ("put x 1", ["cell x 2"], (), "put x 1"), ("put x 1 ; put x 0", ["cell x 2"], ((0,),), "put x 0"),
            ("put x 1 ; none", ["choice, cell x 2"], ((0,),), "none"), ("put x 1 ; none", ["cell x 2, choice"], (), None),
            ("put x 1 ; none", ["choice, cell x 2", "cell x 2, choice"], (), None), ("put x 1 ; none", ["choice, cell x 2", "choice, cell x 2"], ((0,),), "none"),
            ("stop ; put x 1 ; fail f", ["cell x 2, failure f"], ((1,), (2,)), "stop"), ("none ; none", ["-"], ((0,), (1,)), "none"),
            ("copy x x", ["cell x 4"], ((0,),), "skip"), ("if x = 0 ( skip ) else ( skip )", ["cell x 2"], ((0,),), "skip"),
            ("if x = 0 ( put x 0 ) else ( skip )", ["cell x 2"], ((0,), (0, 0, 0)), "skip"),
            ("if x = 1 ( copy x x ; say l a ) else ( none ; say l a )", ["cell x 2, log l"], ((0, 0, 0), (0, 1, 1)), "if x = 1 ( say l a ) else ( none )"),
            ("catch f ( put x 1 ; fail f ) else ( skip )", ["failure f, cell x 2"], ((0,), (0, 0, 0)), "skip"),
            ("catch f ( put x 1 ; fail f ) else ( skip )", ["cell x 2, failure f"], ((0, 0, 1),), "catch f ( put x 1 ) else ( skip )"),
            ("catch f ( put x 1 ; fail f ) else ( skip )", ["cell x 2, failure f", "failure f, cell x 2"], (), None),
            ("choose ( fail f ) or ( say l a )", ["failure f, choice, log l"], ((0, 1, 0),), "choose ( fail f ) or ( skip )"),
            ("choose ( skip ) or ( none )", ["choice"], ((0,),), "skip"),
        ]:
            program, stacks = Program.read(text), [Stack.read(row) for row in rows]
            self.same(idle(program, *stacks), paths)
            self.same(str(slimmed(program, *stacks).program), text if left is None else left)
            self.assertIs(shows_slim(program, slimmed(program, *stacks), *stacks), True)

    def test_paths_as_they_were_then(self):
        program = Program.read("put x 0 ; put x 1 ; put x 0 ; if x = 0 ( put x 1 ; put x 1 ; say l a ) else ( say l b )")
        found = slimmed(program, Stack.read("cell x 2, log l"))
        self.same(found, slimmed_by(program, [Stack.read("cell x 2, log l")]))
        self.same(found.paths, ((0,), (0,), (1, 0, 0), (1, 1, 0)))
        self.same(str(found.program), "put x 0 ; if x = 0 ( put x 1 ; say l a ) else ( skip )")

    def test_the_arguments_stay_as_they_are(self):
        program = Program.read("put x 0 ; put x 1")
        stack = Stack.read("cell x 2")
        for work in [idle, slimmed, lambda program, stack: shows_slim(program, Slim(Program(), ()), stack)]:
            work(program, stack)
            self.assertEqual([str(program), str(stack)], ["put x 0 ; put x 1", "cell x 2"])

    def test_sixty_deeds(self):
        stack = Stack.read("cell x 4, failure f, choice")
        program = Program.read(" ; ".join(["put x 1", "put x 2", "copy x x"] * 20))
        self.same(slimmed(program, stack).paths, ((0,),) * 58 + ((1,),))
        self.same(idle(program, stack), idle_by(program, [stack]))

    def test_papers(self):
        self.is_paper(Slim)


class ShowsSlimTest(SlimCase):
    def test_all_ways(self):
        dice = random.Random(93)
        many = 0
        for program, stacks in self.programs(dice, 60, 2):
            if len(idle_by(program, stacks)) < 5:
                found = ways_to_slim(program, stacks)
                many += len(found) > 1
                for paper in found:
                    self.assertIs(shows_slim(program, paper, *stacks), True)
                    for at in range(len(paper.paths)):
                        fewer = paper.paths[:at] + paper.paths[at + 1:]
                        right = Slim(paper.program, fewer) in found
                        self.assertIs(shows_slim(program, Slim(paper.program, fewer), *stacks), right)
                        twice = paper.paths[:at + 1] + paper.paths[at:]
                        self.assertIs(shows_slim(program, Slim(paper.program, twice), *stacks), Slim(paper.program, twice) in found)
                    turned = Slim(paper.program, paper.paths[::-1])
                    self.assertIs(shows_slim(program, turned, *stacks), turned in found)
        self.assertGreater(many, 10)

    def test_papers_bent(self):
        stack = Stack.read("choice, cell x 2, log l")
        program = Program.read("put x 1 ; put x 0 ; choose ( say l a ; none ) or ( copy x x )")
        good = slimmed(program, stack)
        self.same(str(good.program), "put x 0")
        ways = ways_to_slim(program, [stack])
        self.assertIs(shows_slim(program, good, stack), True)
        paths = good.paths
        for bent in [list(paths), paths[:-1], paths[1:], (*paths, (0,)), (*paths, (5,)), (), None, paths[0], len(paths), str(paths)]:
            self.assertIs(shows_slim(program, Slim(good.program, bent), stack), False)
        for at, path in enumerate(paths):
            for bent in [list(path), path[0], (*path, 0), (*path, 0, 0), path[:-1], (-1,), (9,), (True,), (False,), tuple(map(bool, path)), ("0",), None, (), (0, 2, 0), (0, 0), {}]:
                told = Slim(good.program, paths[:at] + (bent,) + paths[at + 1:])
                right = bent == path and str(bent) == str(path) or told in ways and str(told.paths) in [str(way.paths) for way in ways]
                self.assertIs(shows_slim(program, told, stack), right, bent)
        for bent in [program, Program(), Program.read("put x 1"), "put x 0", None, good, (Deed.read("put x 0"),), Deed.read("put x 0")]:
            self.assertIs(shows_slim(program, Slim(bent, paths), stack), False)
        for value in values():
            self.assertIs(shows_slim(program, value, stack), False)
            self.assertIs(shows_slim(program, Slim(value, paths), stack), False)
            self.assertIs(shows_slim(program, Slim(good.program, value), stack), False)
        self.assertIs(shows_slim(Program(), Slim(Program(), ()), stack), True)
        self.assertIs(shows_slim(Program(), Slim(Program(), ((0,),)), stack), False)

    def test_a_step_that_is_not_alike(self):
        stack = Stack.read("cell x 2")
        program = Program.read("put x 0 ; put x 1")
        self.assertIs(shows_slim(program, Slim(Program.read("put x 1"), ((0,),)), stack), True)
        self.assertIs(shows_slim(program, Slim(Program.read("put x 0"), ((1,),)), stack), False)
        # Both together change nothing, each one alone does.
        turn = Program.read("if x = 0 ( put x 1 ) else ( put x 0 )")
        self.assertIs(shows_slim(turn + turn, Slim(Program(), ((0,), (0,))), stack), False)
        self.assertTrue(alike(turn + turn, Program(), stack))
        for rows, right in [(["choice, cell x 2"], True), (["choice, cell x 2", "cell x 2, choice"], False), (["cell x 2, choice", "choice, cell x 2"], False)]:
            lost = Program.read("put x 1 ; none")
            stacks = [Stack.read(row) for row in rows]
            self.assertIs(shows_slim(lost, Slim(Program(Leave()), ((0,),)), *stacks), right)
            self.assertIs(shows_slim(lost, Slim(lost, ()), *stacks), not right)


class ErrorsTest(SlimCase):
    WORKS = [
        idle, slimmed, lambda program, *stacks: shows_slim(program, None, *stacks), lambda program, *stacks: shows_slim(program, Slim(program, ()), *stacks),
        lambda program, *stacks: shows_slim(program, Slim(Program(), ()), *stacks),
    ]

    def test_wrong_values_in_order(self):
        good = Program.read("put x 1")
        for work in self.WORKS:
            for value in values(lambda value: isinstance(value, Program)):
                self.refused(BadProgram("program"), work, value)
                self.refused(BadProgram("program"), work, value, None)
                self.refused(BadProgram("program"), work, value, OWN)
            self.refused(BadStack("stacks"), work, good)
            for value in values(lambda value: isinstance(value, Stack)):
                self.refused(BadStack(0), work, good, value)
                self.refused(BadStack(0), work, good, value, None)
                self.refused(BadStack(1), work, good, OWN, value, OWN)
                self.refused(BadStack(1), work, good, Stack(), value)
                self.refused(BadStack(2), work, good, OWN, OWN, value)
            self.refused(Unfit("x"), work, good, Stack())
            for rows, name in [
                (["cell x 2", "cell y 2"], "y"), (["cell y 2", "cell x 2"], "x"), (["cell x 2, cell y 2", "log y, cell x 2", "-"], "y"), (["cell x 2, cell y 2", "-"], "x"),
            ]:
                self.refused(Unfit(name), work, Program.read("put x 1 ; put y 1"), *[Stack.read(row) for row in rows])
            self.refused(Unfit("choice"), work, both(7), WIDE, Stack())

    def test_too_many(self):
        ends_of, steps = both(7), both(8) + Program.read(" ; ".join(["put x 1"] * 20) + " ; none")
        words = both(3) + says(50) + Leave()
        stack = Stack.read("log l, choice, cell x 2, cell y 4")
        for work in self.WORKS:
            for program, error in [(ends_of, TooMany("ends", 64)), (steps, TooMany("steps", 4000)), (words, TooMany("words", 200))]:
                self.refused(error, work, program, stack)
                self.refused(error, work, program, stack, stack)
            # The program itself has one end, the one without its first deed too many.
            for first in ["stop", "none"]:
                self.refused(TooMany("ends", 64), work, Program.read(first) + both(7), stack)
        # The other stack is asked, too, behind one under which nothing is idle.
        inner, outer = Stack.read("choice, failure f"), Stack.read("failure f, choice")
        forty = Program(Catch("f", Program(Choose(both(5), both(3)))))
        self.assertEqual(idle(forty, inner), ())
        for stacks in [(outer,), (inner, outer), (outer, inner)]:
            for work in self.WORKS:
                self.refused(TooMany("ends", 64), work, forty, *stacks)
        self.assertEqual(idle(Program(Stop()) + both(6), stack), tuple((at,) for at in range(1, 7)))


class SurroundingsTest(SlimCase):
    def test_the_slim_program_in_the_place_of_the_whole_one(self):
        dice = random.Random(94)
        stacks = orders(*Stack.read("cell x 2, cell y 3, log l, failure f, failure g, choice"))
        seen = 0
        while seen < 250:
            program, stack = random_program(dice, 2), dice.choice(stacks)
            if not small_enough(program, stack, program.cells):
                continue
            slim = slimmed(program, stack)
            if not slim.paths:
                continue
            make = any_surroundings(dice)
            try:
                found = ends(make(program), stack)
                others = ends(make(slim.program), stack)
            except TooMany:
                continue
            seen += 1
            self.assertEqual(found, others, f"{make(program)} and {make(slim.program)} under {stack}")
