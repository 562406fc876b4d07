"""Two stacks compared for all programs."""

import itertools
import random

from layerseen.compared import (
    Exchanges, Parting, compare, crossed, led, parting_of, partings, shows_exchanges, shows_parting, way,
)
from layerseen.ends import End
from layerseen.errors import BadHandler, BadNumber, BadStack, NoPlace, Unlike
from layerseen.handlers import Cell, Choice, Failure, Handler, Keeping, Log
from layerseen.player import ends
from layerseen.programs import Program, Put
from layerseen.stacks import Stack
from tests.support import LayerCase, apart, is_whole, orders, values

X, Y, Z, L, M = Cell("x"), Cell("y", 3), Cell("z", 4), Log("l"), Log("m")
F, G, H, C = Failure("f"), Failure("g"), Failure("h"), Choice()
NINE = [X, Y, Z, L, M, F, G, H, C]


def some_orders(count, most):
    """Pairs of orders of up to so many handlers; each second pair is near to one another."""
    chance = random.Random(12)
    for turn in range(count):
        one = chance.sample(NINE, chance.randrange(most + 1))
        other = chance.sample(one, len(one))
        if turn % 2:
            other = list(one)
            for step in range(chance.randrange(6)):
                places = [at for at in range(len(one) - 1) if not other[at].meets(other[at + 1])]
                for at in chance.sample(places, min(1, len(places))):
                    other[at:at + 2] = other[at + 1:at - 1:-1] if at else [other[1], other[0]]
        yield Stack(*one), Stack(*other)


def pairs_crossed(one, other):
    """The pairs of names that stand the other way about, found by going through all."""
    return sorted(
        (outer, inner) for outer, inner in itertools.permutations(one.names, 2)
        if one.is_inside(inner, outer) and other.is_inside(outer, inner)
    )


def text_for(one, other):
    """The program of two deeds as the document writes it, for two handlers of unlike kinds."""
    words = {type(handler).__name__: handler.name for handler in (one, other)}
    deed = f"put {words['Cell']} 1" if "Cell" in words else f"say {words['Log']} a" if "Log" in words else None
    if deed is not None:
        return f"{deed} ; fail {words['Failure']}" if "Failure" in words else f"choose ( {deed} ) or ( skip )"
    return f"choose ( skip ) or ( fail {words['Failure']} )"


class PapersTest(LayerCase):
    def test_papers(self):
        self.is_paper(Exchanges)
        self.is_paper(Parting, truth=False)
        for made in [Exchanges, Parting]:
            self.assertIn("__bool__", vars(made))
        self.assertFalse(Parting(None, (), ()) == Exchanges(()))


class CompareTest(LayerCase):
    def check(self, one, other):
        found = compare(one, other)
        self.assertEqual(found, compare(one=one, other=other))
        alike = apart(one, other) == 0
        self.assertIs(bool(found), alike)
        self.assertIs(shows_exchanges(one, other, found), alike)
        self.assertIs(shows_parting(one, other, found), not alike)
        pairs = pairs_crossed(one, other)
        self.same(crossed(one, other), tuple(pairs))
        if alike:
            self.assertIs(type(found), Exchanges)
            self.check_places(one, other, found.places)
            self.assertEqual(len(found.places), len(pairs))
        else:
            self.assertIs(type(found), Parting)
            self.check_parting(one, other, found)

    def check_places(self, one, other, places):
        self.assertIs(type(places), tuple)
        row, steps = list(one), [one]
        for place in places:
            self.assertIs(type(place), int)
            self.assertFalse(row[place].meets(row[place + 1]))
            row[place], row[place + 1] = row[place + 1], row[place]
            steps.append(Stack(*row))
        self.assertEqual(steps[-1], other)
        self.assertEqual(list(way(one, other)), steps)
        self.assertEqual(led(one, places), other)

    def check_parting(self, one, other, found):
        turned = [pair for pair in pairs_crossed(one, other) if one.handler(pair[0]).meets(one.handler(pair[1]))]
        first = next(pair for pair in one.pairs if pair in turned)
        program = parting_of(one.handler(first[0]), one.handler(first[1]))
        self.assertEqual(found.program, program)
        self.same(found.ends, ends(program, one))
        self.same(found.others, ends(program, other))
        self.assertNotEqual(found.ends, found.others)
        self.refused(Unlike("pairs"), lambda: list(way(one, other)))
        self.refused(Unlike("pairs"), lambda: next(way(one, other)))

    def test_all_orders_of_few(self):
        for handlers in [[], [X], [C], [X, L], [X, F], [F, G, C], [X, F, C], [X, L, F, C], [X, Y, F, G]]:
            for one, other in itertools.product(orders(*handlers), repeat=2):
                self.check(one, other)

    def test_orders_of_up_to_nine(self):
        for one, other in some_orders(400, 9):
            self.check(one, other)
        self.check(Stack(*NINE), ~Stack(*NINE))
        self.check(Stack(*NINE), Stack(M, Z, L, Y, X, H, F, G, C))
        self.check(Stack(*NINE[:5]), ~Stack(*NINE[:5]))

    def test_equal_stacks_and_the_empty_stack(self):
        for stack in [Stack(), Stack(X), Stack(X, F, C), Stack(*NINE)]:
            self.assertEqual(compare(stack, stack), Exchanges(()))
            self.same(crossed(stack, stack), ())
            self.assertEqual(list(way(stack, stack)), [stack])
            self.assertTrue(shows_exchanges(stack, stack, Exchanges(())))

    def test_the_first_pair_of_one_that_stands_the_other_way_about(self):
        one, other = Stack(X, F, C), Stack(F, C, X)
        self.assertEqual(str(compare(one, other).program), "choose ( put x 1 ) or ( skip )")
        self.assertEqual(str(compare(other, one).program), "choose ( put x 1 ) or ( skip )")
        one, other = Stack(F, X, L, C), Stack(X, L, C, F)
        self.assertEqual(str(compare(one, other).program), "choose ( skip ) or ( fail f )")
        self.assertEqual(str(compare(other, one).program), "choose ( skip ) or ( fail f )")
        self.assertEqual(str(compare(Stack(L, F), Stack(F, L)).program), "say l a ; fail f")

    def test_wrong_stacks_in_order(self):
        one, other = Stack(X, F), Stack(F, X)
        for work in [
            compare, crossed, lambda one, other: list(way(one, other)), lambda one, other: next(way(one, other)),
            lambda one, other: shows_exchanges(one, other, None), lambda one, other: shows_parting(one, other, Exchanges(())),
        ]:
            for value in values(lambda value: isinstance(value, Stack)):
                self.refused(BadStack("one"), work, value, other)
                self.refused(BadStack("one"), work, value, value)
                self.refused(BadStack("other"), work, one, value)
            for unlike in [
                Stack(), Stack(X), Stack(X, F, C), Stack(Cell("x", 3), F), Stack(X, G), Stack(Log("x"), F), Stack(F, X, L),
                Stack(Y, F), Stack(Cell("f"), Failure("x")),
            ]:
                self.refused(Unlike("handlers"), work, one, unlike)
                self.refused(Unlike("handlers"), work, unlike, other)


class LedTest(LayerCase):
    def test_places(self):
        stack = Stack(X, F, C, L)
        for places, text in [
            ([], "cell x 2, failure f, choice, log l"), ((), "cell x 2, failure f, choice, log l"),
            ([0], "failure f, cell x 2, choice, log l"), ((2, 1, 0), "log l, cell x 2, failure f, choice"),
            ([1, 1], "cell x 2, failure f, choice, log l"), ([0, 1, 2], "failure f, choice, log l, cell x 2"),
        ]:
            self.assertEqual(str(led(stack, places)), text)
            self.assertEqual(str(led(stack=stack, places=places)), text)
        self.assertEqual(str(led(Stack(X, F), [0] * 1501)), "failure f, cell x 2")
        self.assertEqual(led(Stack(), []), Stack())

    def test_arguments_stay_as_they_are(self):
        stack, places = Stack(X, F, C), [0, 1]
        led(stack, places)
        self.assertEqual([stack, places], [Stack(X, F, C), [0, 1]])

    def test_wrong_values_in_order(self):
        stack = Stack(X, F, C)
        for value in values(lambda value: isinstance(value, Stack)):
            self.refused(BadStack("stack"), led, value, [0])
            self.refused(BadStack("stack"), led, value, None)
        for value in values(lambda value: isinstance(value, (list, tuple))):
            self.refused(BadNumber(value), led, stack, value)
        for value in values(lambda value: is_whole(value) and 0 <= value < 2):
            self.refused(NoPlace(value), led, stack, [value])
            self.refused(NoPlace(value), led, stack, (0, 1, value, 99))
        self.refused(NoPlace(0), led, Stack(X), [0])
        self.refused(NoPlace(0), led, Stack(), [0])
        self.refused(NoPlace(-1), led, stack, [0, -1])


class PartingOfTest(LayerCase):
    def test_all_kinds_of_pairs_in_either_order(self):
        for one, other in itertools.permutations(NINE, 2):
            if one.meets(other):
                self.assertEqual(str(parting_of(one, other)), text_for(one, other))
                self.assertEqual(str(parting_of(one=one, other=other)), text_for(one, other))
                first, second = Stack(one, other), Stack(other, one)
                self.assertNotEqual(ends(parting_of(one, other), first), ends(parting_of(one, other), second))
            else:
                self.refused(Unlike("pair"), parting_of, one, other)
        for handler in NINE:
            self.refused(Unlike("pair"), parting_of, handler, handler)

    def test_what_is_no_handler(self):
        for value in values(lambda value: isinstance(value, Handler)):
            self.refused(BadHandler(0), parting_of, value, X)
            self.refused(BadHandler(0), parting_of, value, value)
            self.refused(BadHandler(1), parting_of, X, value)

    def test_partings(self):
        for stack in [Stack(), Stack(X, L), *orders(X, L, F, C), Stack(*NINE), ~Stack(*NINE), Stack(C, Cell("d"), Failure("b"))]:
            names = sorted(stack.names)
            expected = [
                ((name, other), parting_of(stack.handler(name), stack.handler(other)))
                for name, other in itertools.combinations(names, 2) if stack.handler(name).meets(stack.handler(other))
            ]
            self.same(list(partings(stack)), expected)
            self.same(list(partings(stack=stack)), expected)
        for value in values(lambda value: isinstance(value, Stack)):
            self.refused(BadStack("stack"), lambda: next(partings(value)))

    def test_partings_come_one_after_another(self):
        told = partings(Stack(X, F, C))
        self.same([names for names, program in [next(told), next(told), next(told)]], [("choice", "f"), ("choice", "x"), ("f", "x")])
        self.refused(StopIterationSeen(), lambda: take_next(told))


class StopIterationSeen(BadStack):
    def __init__(self):
        super().__init__("end")


def take_next(told):
    for item in told:
        return item
    raise StopIterationSeen()


class ShowsExchangesTest(LayerCase):
    def test_longer_ways(self):
        one, other = Stack(X, L, F, G), Stack(L, X, F, G)
        for places in [(0,), (0, 0, 0), (0, 2, 2), (2, 0, 2), (0,) * 901]:
            self.assertIs(shows_exchanges(one, other, Exchanges(places)), True)
            self.assertIs(shows_exchanges(one=one, other=other, value=Exchanges(places)), True)
        for places in [(), (0, 0), (1,), (0, 1, 1), (1, 1, 0), (2,), (0, 2), (3,), (-1,), (0, 3), (0, -4, -4), (4,), (10 ** 59,)]:
            self.assertIs(shows_exchanges(one, other, Exchanges(places)), False)

    def test_orders_that_part(self):
        one, other = Stack(X, F), Stack(F, X)
        for places in [(0,), (), (0, 0)]:
            self.assertIs(shows_exchanges(one, other, Exchanges(places)), False)

    def test_values_of_other_kinds(self):
        one, other = Stack(X, L, M), Stack(X, M, L)
        self.assertIs(shows_exchanges(one, other, Exchanges((1,))), True)
        for places in [[1], (True,), ("1",), (None,), 1, None, {1: 1}, "1", ((1,),), (1, None), (1, False, 0), Exchanges((1,))]:
            self.assertIs(shows_exchanges(one, other, Exchanges(places)), False)
        for value in values():
            self.assertIs(shows_exchanges(one, other, value), False)
            self.assertIs(shows_exchanges(one, other, Exchanges(value)), False)
            self.assertIs(shows_exchanges(one, one, Exchanges(value)), value == () and isinstance(value, tuple))


class ShowsPartingTest(LayerCase):
    ONE, OTHER = Stack(X, F, C, L), Stack(F, C, X, L)

    def test_other_programs(self):
        for text in ["put x 1 ; fail f", "choose ( put x 1 ) or ( skip )", "catch f ( put x 1 ; fail f ) else ( skip )"]:
            program = Program.read(text)
            paper = Parting(program, ends(program, self.ONE), ends(program, self.OTHER))
            self.assertIs(shows_parting(self.ONE, self.OTHER, paper), True)
            self.assertIs(shows_parting(one=self.ONE, other=self.OTHER, value=paper), True)
            self.assertIs(shows_parting(self.OTHER, self.ONE, paper), False)
            self.assertIs(shows_parting(self.ONE, self.ONE, paper), False)

    def test_ends_that_are_equal(self):
        program = Program.read("put x 1")
        paper = Parting(program, ends(program, self.ONE), ends(program, self.OTHER))
        self.assertIs(shows_parting(self.ONE, self.OTHER, paper), False)

    def test_bent_in_one_part(self):
        program = Program.read("choose ( put x 1 ) or ( skip )")
        one, other = ends(program, self.ONE), ends(program, self.OTHER)
        self.assertIs(shows_parting(self.ONE, self.OTHER, Parting(program, one, other)), True)
        done = {"l": ()}
        for bent in [
            (program, list(one), other), (program, one, list(other)), (program, other, one), (program, one, one), (program, one[:1], other),
            (program, one, other[:1]), (program, one + one, other), (str(program), one, other), (program[0], one, other),
            (program, (End(None, {"x": True}, done),) * 2, other), (program, (End(None, {"x": 1}, {"l": []}),) * 2, other),
            (program, (End("f", {"x": 1}, done),) * 2, other), (program, (End(None, {}, done),) * 2, other),
            (program, (End(None, {"x": 1, "y": 0}, done),) * 2, other), (program, (End(None, [("x", 1)], done),) * 2, other),
            (program, one, (End(None, {"x": 1}, done), End(None, {"x": False}, done))), (None, None, None),
        ]:
            self.assertIs(shows_parting(self.ONE, self.OTHER, Parting(*bent)), False)
        self.assertIs(shows_parting(self.ONE, self.OTHER, Parting(program, (End(None, {"x": 1}, {"l": ()}),) * 2, other)), True)

    def test_any_values(self):
        program = Program.read("choose ( put x 1 ) or ( skip )")
        one, other = ends(program, self.ONE), ends(program, self.OTHER)
        for value in values():
            self.assertIs(shows_parting(self.ONE, self.OTHER, value), False)
            for bent in [(value, one, other), (program, value, other), (program, one, value), (value, value, value)]:
                self.assertIs(shows_parting(self.ONE, self.OTHER, Parting(*bent)), False)

    def test_a_program_that_a_stack_does_not_take(self):
        for text in ["put y 1", "put x 2", "fail g", "say x a", "put l 1"]:
            self.assertIs(shows_parting(self.ONE, self.OTHER, Parting(Program.read(text), (), ())), False)
        self.assertIs(shows_parting(Stack(X, F), Stack(F, X), Parting(Program.read("choose ( skip ) or ( skip )"), (), ())), False)

    def test_a_program_that_the_player_refuses(self):
        both = Program() | Program()
        for program in [both * 7, both * 7 + Put("x", 1), both * 6 + Program.read("choose ( skip ) or ( fail f )")]:
            self.assertIs(shows_parting(self.ONE, self.OTHER, Parting(program, (), (End(None, {}, {}),))), False)
        # Refused under one of both alone: a put that is shared is asked behind each branch.
        doubled = both * 5 + Program.read("if x = 1 ( choose ( skip ) or ( choose ( skip ) or ( skip ) ) ) else ( put x 1 )")
        one, other = Stack(C, X), Stack(X, C)
        alone = ends(doubled, one)
        self.assertIs(shows_parting(one, other, Parting(doubled, alone, ())), False)
        self.assertIs(shows_parting(other, one, Parting(doubled, (), alone)), False)


class HelpersTest(LayerCase):
    def test_near_pairs_are_alike(self):
        found = [apart(one, other) == 0 for one, other in some_orders(100, 9)]
        self.assertGreater(found.count(True), 30)
        self.assertGreater(found.count(False), 15)
        self.assertTrue(all(isinstance(handler, (Keeping, Failure, Choice)) for handler in NINE))
