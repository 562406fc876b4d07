"""Programs that are alike in all surroundings, and talks that part the others."""

import itertools
import random

from layerseen.errors import BadProgram, BadStack, TooMany, Unfit
from layerseen.handlers import Cell
from layerseen.likeness import Apart, Same, alike, meet
from layerseen.player import ends
from layerseen.programs import Catch, Choose, If, Leave, Program, Put, Stop
from layerseen.stacks import Stack
from layerseen.tables import table
from tests.oracle_talk import table_of
from tests.support import LayerCase, orders, values
from tests.test_player_orders import random_program
from tests.test_tables import just_so_many, small_enough
from tests.test_talks import ORDERS, both, says

OWN, SHARED = Stack.read("choice, cell x 2"), Stack.read("cell x 2, choice")
POOL = [Program.read(text) for text in [
    "skip", "none", "stop", "put x 1", "put x 0", "put x 1 ; put x 0", "put x 1 ; none", "put x 1 ; stop", "stop ; put x 1", "say l a",
    "say l a ; none", "put x 1 ; say l a", "say l a ; put x 1", "fail f", "put x 1 ; fail f", "say l a ; fail f", "choose ( skip ) or ( skip )",
    "put x 1 ; choose ( skip ) or ( skip )", "choose ( put x 1 ) or ( put x 1 )", "choose ( put x 1 ) or ( skip )", "choose ( skip ) or ( put x 1 )",
    "choose ( put x 1 ) or ( put x 0 )", "catch f ( put x 1 ; fail f ) else ( skip )", "catch f ( say l a ; fail f ) else ( skip )",
    "catch f ( choose ( put x 1 ) or ( put x 0 ) ) else ( skip )", "choose ( fail f ) or ( skip )", "choose ( skip ) or ( fail f )", "copy x x",
    "choose ( skip ) or ( none )", "choose ( none ) or ( skip )", "if x = 0 ( put x 1 ) else ( skip )", "if x = 1 ( stop ) else ( skip )",
    "choose ( say l a ) or ( say l b )", "choose ( say l a ) or ( say l a )", "choose ( skip ) or ( if x = 1 ( none ) else ( skip ) )",
    "choose ( skip ) or ( if x = 1 ( say l a ) else ( skip ) )", "choose ( skip ) or ( choose ( skip ) or ( if x = 1 ( fail f ) else ( skip ) ) )",
]]
FEW = Stack.read("cell x 2, log l, failure f, choice")


def things_of(one, other):
    return sorted({*one.cells, *other.cells}), sorted({*one.logs, *other.logs})


def talks_of(program, stack, cells, logs):
    """All talks of the slow model."""
    return table_of(program, stack, cells, logs)[1]


def apart_of(one, other, stack):
    """The Apart of two programs by going through all talks of both; None if they are alike."""
    cells, logs = things_of(one, other)
    found = []
    told = {
        told_key(start, answers[:many]): events[:many + 1]
        for start, answers, events in talks_of(other, stack, cells, logs) for many in range(len(events))
    }
    for start, answers, events in talks_of(one, stack, cells, logs):
        for many in range(len(events)):
            others = told.get(told_key(start, answers[:many]))
            if others is None or others[-1] != events[many]:
                if others is not None:
                    found.append((many, [start[cell] for cell in cells], [list(answer.values()) for answer in answers[:many]], (
                        start, answers[:many], events[:many + 1], others
                    )))
                break
    return Apart(*min(found, key=lambda row: row[:3])[3]) if found else None


def told_key(start, answers):
    return str([sorted(start.items()), [sorted(answer.items()) for answer in answers]])


class LikenessTest(LayerCase):
    def check(self, one, other, stack):
        expected = apart_of(one, other, stack)
        for found in [alike(one, other, stack), alike(one=one, other=other, stack=stack)]:
            self.assertIs(bool(found), expected is None)
            if expected is None:
                self.assertIs(type(found), Same)
                cells, logs = things_of(one, other)
                self.same(found.table, table(one, stack, *cells, *logs))
                self.same(found.table, table(other, stack, *cells, *logs))
            else:
                self.same(found, expected)
                self.same([type(found.replies), type(found.events), type(found.others)], [tuple] * 3)
        many = None if expected is None else len(expected.events) - 1
        self.same(meet(one, other, stack), many)
        self.same(meet(one=other, other=one, stack=stack), many)

    def test_pairs_that_are_near_one_another_under_all_orders(self):
        dice = random.Random(41)
        stacks = orders(*FEW)
        for one, other in itertools.product(POOL, repeat=2):
            for stack in dice.sample(stacks, 2):
                self.check(one, other, stack)

    def test_programs_with_a_deed_left_out(self):
        dice = random.Random(42)
        tried = apart = 0
        while tried < 400:
            one, stack = random_program(dice, 2), dice.choice(ORDERS)
            other = one.without(dice.choice(list(one.walk())))
            cells, logs = things_of(one, other)
            if small_enough(one, stack, cells) and small_enough(other, stack, cells):
                tried += 1
                self.check(one, other, stack)
                apart += not alike(one, other, stack)
        self.assertGreater(apart, 100)
        self.assertGreater(tried - apart, 50)

    def test_without_a_choice(self):
        for row in ["cell x 2, failure f, log l", "failure f, cell x 2, log l", "log l, failure f, cell x 2"]:
            stack = Stack.read(row)
            some = [program for program in POOL if stack.takes(program)]
            for one, other in itertools.product(some, repeat=2):
                self.check(one, other, stack)

    def test_by_hand(self):
        for one, other, stack, found in [
            ("put x 1 ; none", "none", "choice, cell x 2", None), ("put x 1 ; none", "none", "cell x 2, choice", 0),
            ("choose ( put x 1 ) or ( put x 0 )", "choose ( put x 1 ) or ( skip )", "cell x 2, choice", 1),
            ("choose ( put x 1 ) or ( put x 0 )", "choose ( put x 1 ) or ( skip )", "choice, cell x 2", 1),
            ("choose ( skip ) or ( none )", "skip", "choice", None), ("choose ( skip ) or ( skip )", "skip", "choice", 1),
            ("stop", "none", "cell x 2", 0), ("skip", "stop", "-", 0), ("none", "stop", "-", 0), ("skip", "skip", "-", None),
            ("put x 1 ; choose ( skip ) or ( skip )", "choose ( put x 1 ) or ( put x 1 )", "choice, cell x 2", None),
            ("put x 1 ; choose ( skip ) or ( skip )", "choose ( put x 1 ) or ( put x 1 )", "cell x 2, choice", 1),
        ]:
            self.assertEqual(meet(Program.read(one), Program.read(other), Stack.read(stack)), found)

    def test_of_a_program_with_itself(self):
        for program in POOL:
            self.assertEqual(alike(program, program, FEW), Same(table(program, FEW)))

    def test_the_things_that_one_of_both_names(self):
        stack = Stack.read("cell x 2, log m, choice, cell y 3, log l")
        found = alike(Program.read("copy x x"), Program.read("copy y y ; if x = 0 ( skip ) else ( skip )"), stack)
        self.assertEqual([found.table.sizes, found.table.logs], [(("x", 2), ("y", 3)), ()])
        found = alike(Program.read("say l a"), Program.read("say m a"), stack)
        self.assertEqual([found.start, found.replies, *map(str, found.events + found.others)], [
            {}, (), "ended ; l a ; m -", "ended ; l - ; m a"
        ])

    def test_papers(self):
        self.is_paper(Same)
        self.is_paper(Apart, truth=False)
        for made in [Same, Apart]:
            self.assertIn("__bool__", vars(made))


class ErrorsTest(LayerCase):
    def test_wrong_values_in_order(self):
        good = Program.read("put x 1")
        for work in [alike, meet]:
            for value in values(lambda value: isinstance(value, Program)):
                self.refused(BadProgram("one"), work, value, None, None)
                self.refused(BadProgram("one"), work, value, good, OWN)
                self.refused(BadProgram("other"), work, good, value, None)
                self.refused(BadProgram("other"), work, good, value, OWN)
            for value in values(lambda value: isinstance(value, Stack)):
                self.refused(BadStack("stack"), work, good, good, value)
            for one, other, name in [("put z 1", "put y 1", "z"), ("put x 1", "put y 1 ; put z 1", "y"), ("put y 1", "put x 2", "y"), ("put x 1", "put x 2", "x")]:
                self.refused(Unfit(name), work, Program.read(one), Program.read(other), OWN)
            self.refused(Unfit("choice"), work, Program(), both(7), Stack())
            self.refused(Unfit("q"), work, both(7), Program.read("put q 1"), OWN)

    def test_too_many_of_one_then_of_other(self):
        ends_of, steps = both(7), both(8) + Program.read(" ; ".join(["put x 1"] * 20) + " ; none")
        words = both(3) + says(50) + Leave()
        stack = Stack.read("log l, choice, cell x 2, cell y 4")
        good = Program()
        for work in [alike, meet]:
            for program, error in [(ends_of, TooMany("ends", 64)), (steps, TooMany("steps", 4000)), (words, TooMany("words", 200))]:
                self.refused(error, work, program, good, stack)
                self.refused(error, work, good, program, stack)
                self.refused(error, work, program, program, stack)
            self.refused(TooMany("ends", 64), work, ends_of, steps, stack)
            self.refused(TooMany("steps", 4000), work, steps, ends_of, stack)
            self.refused(TooMany("words", 200), work, words, steps, stack)

    def test_too_many_talks(self):
        stack = Stack.read("cell x 2, choice, cell y 4")
        for work in [alike, meet]:
            self.refused(TooMany("talks", 5000), work, just_so_many(str(both(1))), both(7), stack)
            self.refused(TooMany("talks", 5000), work, Program(), just_so_many(str(both(1))), stack)
        self.assertEqual(alike(just_so_many("skip"), just_so_many("skip"), stack).table.talks, 5000)
        # A cell that the other program names makes more talks.
        wide = Stack.read("cell x 2, cell z 2, choice, cell y 4")
        self.refused(TooMany("talks", 5000), alike, just_so_many("skip"), Program.read("put z 1"), wide)


def counting(replies, limit, kind):
    """Behind an event: counts it in k, tells its kind in m and stops if it is the last one, otherwise replies."""
    program = Program(Put("k", limit), Put("m", kind), Stop())
    for number in range(limit - 2, -1, -1):
        puts = [Put(name, value) for name, value in replies[number].items()]
        program = Program(If("k", number, Program(Put("k", number + 1), *puts, Leave()), program))
    return program


def surrounded(program, found, stack):
    """A program around another one that shows the talk of an Apart to its end: puts the start, counts, replies, stops."""
    place = program + counting(found.replies, len(found.events), 1)
    for handler in stack:
        if handler.WORD == "failure" and handler.name not in stack.gathering:
            place = Program(Catch(handler.name, place, counting(found.replies, len(found.events), 2)))
    if "choice" in stack:
        place = Program(Choose(place, Program(Put("m", 3), Stop())))
    return Program(*[Put(name, value) for name, value in found.start.items()]) + place


def any_surroundings(dice):
    """A surrounding made by chance: what puts a program in its place."""
    ahead, behind, aside = random_program(dice, 1), random_program(dice, 1), random_program(dice, 1)
    return dice.choice([
        lambda block: ahead + block + behind, lambda block: ahead + Program(Choose(block, aside)) + behind,
        lambda block: ahead + Program(Catch("f", block, aside)) + behind, lambda block: Program(Choose(ahead, block)) + behind,
        lambda block: Program(Catch("f", Program(Choose(ahead, block)), aside)) + behind, lambda block: Program(If("x", 1, block, aside)) + behind,
    ])


class SurroundingsTest(LayerCase):
    def test_surroundings_of_an_apart_show_other_ends(self):
        dice = random.Random(51)
        seen = 0
        for one, other in itertools.product(POOL, repeat=2):
            for stack in dice.sample(orders(*FEW), 2):
                found = alike(one, other, stack)
                if not found and len(found.events) <= 3:
                    seen += 1
                    wide = Stack(Cell("k", 4), Cell("m", 4), *stack)
                    self.assertNotEqual(
                        ends(surrounded(one, found, stack), wide), ends(surrounded(other, found, stack), wide),
                        f"{one} / {other} under {stack}",
                    )
        self.assertGreater(seen, 1000)

    def test_alike_programs_show_the_same_in_the_same_surroundings(self):
        dice = random.Random(52)
        handlers = Stack.read("cell x 2, log l, failure f, choice")
        further = Stack.read("cell y 3, failure g")
        pairs = list(itertools.permutations(POOL, 2))
        seen = 0
        while seen < 500:
            one, other = dice.choice(pairs)
            row = list(handlers) + list(further)
            dice.shuffle(row)
            stack = Stack(*row)
            if alike(one, other, stack):
                seen += 1
                make = any_surroundings(dice)
                try:
                    found = ends(make(one), stack)
                    others = ends(make(other), stack)
                except TooMany:
                    continue
                self.assertEqual(found, others, f"{make(one)} and {make(other)} under {stack}")
