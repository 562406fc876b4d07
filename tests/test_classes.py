"""Classes of stacks: normal stacks, their numbers, and ways from one class to another."""

import functools
import itertools
import math
import random

from layerseen.classes import (
    beside, class_at, class_index, class_way, classes, layers, many_classes, many_in, normal, shows_class_way, turned,
)
from layerseen.errors import BadNumber, BadStack, Unlike
from layerseen.handlers import Cell, Choice, Failure, Log
from layerseen.stacks import Stack
from tests.support import LayerCase, apart, is_whole, orders, values

X, Y, Z, L, M = Cell("x"), Cell("y", 3), Cell("z", 4), Log("l"), Log("m")
F, G, H, C = Failure("f"), Failure("g"), Failure("h"), Choice()
TEN = [Cell("b"), Cell("d", 3), X, Cell("zz"), Log("a"), L, Failure("c"), F, Failure("y"), C]
SETS = [
    [], [X], [F], [C], [X, L], [F, G], [X, F], [X, C], [F, C], [X, F, C], [X, L, F], [X, F, G], [X, L, C], [Y, X, F, C],
    [X, L, F, G], [X, F, G, C], [X, Y, L, F], [X, Y, L, M, C], [X, Y, F, G, C], [Cell("d"), Failure("b"), C, Log("e")],
]


def groups_of(handlers):
    """The classes of all orders of some handlers, each a list of stacks, put together by their pairs alone."""
    found = {}
    for stack in orders(*handlers):
        found.setdefault(frozenset(stack.pairs), []).append(stack)
    return list(found.values())


def is_normal(stack):
    return all(one.meets(other) or one.name < other.name for one, other in zip(stack, list(stack)[1:]))


def normals_of(handlers):
    """The normal stacks of some handlers in order, found by going through all orders."""
    return sorted((stack for stack in orders(*handlers) if is_normal(stack)), key=lambda stack: stack.names)


def counted(things, failures, has_choice):
    """How many normal stacks there are, counted from rows of sets, handler by handler."""
    handlers = [Cell(name) for name in "abcd"[:things]] + [Log(name) for name in "ef"[:max(0, things - 4)]]
    handlers += [Failure(name) for name in "xyz"[:failures]] + [C] * has_choice
    return len(groups_of(handlers))


@functools.lru_cache(None)
def onto(many, runs):
    """In how many ways so many handlers make so many runs, by inclusion and exclusion."""
    return sum((-1) ** k * math.comb(runs, k) * (runs - k) ** many for k in range(runs + 1))


@functools.lru_cache(None)
def by_turns(keeping, failures):
    """How many classes there are without a choice."""
    if keeping == 0 or failures == 0:
        return 1
    return sum(
        onto(keeping, runs) * onto(failures, others) * (2 if runs == others else 1)
        for runs in range(1, keeping + 1) for others in (runs - 1, runs, runs + 1) if 1 <= others <= failures
    )


def around_choice(keeping, failures):
    """How many classes there are with a choice: what stands outside of it, and what inside."""
    return sum(
        math.comb(keeping, some) * math.comb(failures, few) * by_turns(some, few) * by_turns(keeping - some, failures - few)
        for some in range(keeping + 1) for few in range(failures + 1)
    )


class NormalTest(LayerCase):
    def test_all_orders_of_few(self):
        for handlers in SETS:
            for group in groups_of(handlers):
                own = [stack for stack in group if is_normal(stack)]
                self.assertEqual(len(own), 1)
                for stack in group:
                    self.assertEqual(normal(stack), own[0])
                    self.assertEqual(normal(stack=stack), own[0])
                    self.assertIs(many_in(stack), len(group))
                    self.assertEqual(many_in(stack=stack), len(group))
                    self.same(layers(stack), layers(own[0]))

    def test_layers(self):
        for row, expected in [
            ([], ()), ([X], (("x",),)), ([L, X, Y], (("l", "x", "y"),)), ([Y, X, F, C], (("x", "y"), ("f",), ("choice",))),
            ([X, C, Y], (("x",), ("choice",), ("y",))), ([G, F, M, L, C, H], (("f", "g"), ("l", "m"), ("choice",), ("h",))),
            ([F, C, G], (("f",), ("choice",), ("g",))),
        ]:
            self.same(layers(Stack(*row)), expected)
            self.same(layers(stack=Stack(*row)), expected)
            self.same(normal(Stack(*row)).names, tuple(name for run in expected for name in run))

    def test_many_in_great_runs(self):
        self.assertEqual(many_in(Stack(*TEN)), 4320)
        self.assertEqual(many_in(Stack(*TEN[:6])), 720)
        self.assertEqual(many_in(Stack(*TEN[6:9], C, *TEN[:6])), 4320)

    def test_wrong_stacks(self):
        for work in [layers, normal, many_in, class_index]:
            for value in values(lambda value: isinstance(value, Stack)):
                self.refused(BadStack("stack"), work, value)


class NumbersTest(LayerCase):
    def test_many_classes_against_counting(self):
        for things, failures, has_choice in itertools.product(range(6), range(4), [False, True]):
            if things + failures < 7:
                self.assertIs(type(many_classes(things, failures, has_choice)), int)
                self.assertEqual(many_classes(things, failures, has_choice), counted(things, failures, has_choice))

    def test_by_hand(self):
        for numbers, many in [
            ((0, 0, False), 1), ((0, 0, True), 1), ((60, 0, False), 1), ((0, 60, False), 1), ((1, 0, True), 2), ((2, 0, True), 4),
            ((60, 0, True), 2 ** 60), ((0, 60, True), 2 ** 60), ((1, 1, False), 2), ((2, 1, True), 18), ((2, 2, False), 14),
            ((60, 1, False), 2 ** 60), ((1, 60, False), 2 ** 60), ((6, 3, True), 302730),
        ]:
            self.assertEqual(many_classes(*numbers), many)
            self.assertEqual(many_classes(keeping=numbers[0], failures=numbers[1], has_choice=numbers[2]), many)

    def test_great_numbers(self):
        for keeping, failures in [(60, 60), (60, 3), (17, 44)]:
            self.assertEqual(many_classes(keeping, failures, False), by_turns(keeping, failures))
            self.assertEqual(many_classes(keeping, failures, True), many_classes(failures, keeping, True))
        self.assertEqual(many_classes(60, 2, True), around_choice(60, 2))
        self.assertEqual(many_classes(60, 60, True), around_choice(60, 60))

    def test_wrong_numbers_in_order(self):
        def good(value):
            return is_whole(value) and 0 <= value <= 60
        for value in values(good):
            self.refused(BadNumber(value), many_classes, value, 1, True)
            self.refused(BadNumber(value), many_classes, value, None, None)
            self.refused(BadNumber(value), many_classes, 1, value, False)
            self.refused(BadNumber(value), many_classes, 1, value, 7)
        for value in values(lambda value: isinstance(value, bool)):
            self.refused(BadNumber(value), many_classes, 60, 60, value)


class OrderTest(LayerCase):
    def test_there_and_back(self):
        for handlers in SETS:
            rows = normals_of(handlers)
            for stack in [Stack(*handlers), ~Stack(*handlers)]:
                self.assertEqual(list(classes(stack)), rows)
                for index, row in enumerate(rows):
                    self.assertEqual(class_at(stack, index), row)
                    self.assertEqual(class_at(stack=stack, index=index), row)
                    self.assertIs(type(class_index(row)), int)
                    self.assertEqual(class_index(stack=row), index)
                    self.assertEqual(list(classes(stack, index)), rows[index:])
                self.assertEqual(list(classes(stack=stack, index=len(rows) - 1)), rows[-1:])
            for group in groups_of(handlers):
                self.assertEqual({class_index(stack) for stack in group}, {rows.index(normal(group[0]))})

    def test_very_many_classes_from_a_late_index_on(self):
        stack = Stack(*TEN)
        many = many_classes(6, 3, True)
        chance = random.Random(3)
        for index in [0, 1, many // 2, many - 3, many - 1] + [chance.randrange(many) for turn in range(40)]:
            row = class_at(stack, index)
            self.assertTrue(is_normal(row))
            self.assertEqual(class_index(row), index)
            told = classes(stack, index)
            following = [next(told).names for turn in range(min(6, many - index))]
            self.assertEqual(following[0], row.names)
            self.assertEqual(following, sorted(set(following)))
            self.assertEqual(following, [class_at(stack, at).names for at in range(index, index + len(following))])
        self.assertEqual(len(list(classes(stack, many - 50))), 50)

    def test_wrong_numbers(self):
        for handlers, many in [([], 1), ([X], 1), ([X, F, C], 6), (TEN, 302730)]:
            stack = Stack(*handlers)
            for value in [many, many + 1, -1, 10 ** 59] + values(lambda value: is_whole(value) and 0 <= value < many):
                self.refused(BadNumber(value), class_at, stack, value)
                self.refused(BadNumber(value), lambda: next(classes(stack, value)))
                self.refused(BadNumber(value), lambda: next(classes(stack, index=value)))

    def test_wrong_stacks(self):
        for value in values(lambda value: isinstance(value, Stack)):
            self.refused(BadStack("stack"), class_at, value, 0)
            self.refused(BadStack("stack"), class_at, value, None)
            self.refused(BadStack("stack"), lambda: next(classes(value)))
            self.refused(BadStack("stack"), lambda: next(classes(value, -1)))


class TurnedTest(LayerCase):
    def test_all_orders_of_few(self):
        for handlers in [[], [X], [X, F], [X, F, C], [X, L, F, C], [X, F, G, C]]:
            for one, other in itertools.product(orders(*handlers), repeat=2):
                pairs = sorted(
                    (outer, inner) for outer, inner in itertools.permutations(one.names, 2)
                    if one.handler(outer).meets(one.handler(inner)) and one.is_inside(inner, outer) and other.is_inside(outer, inner)
                )
                self.same(turned(one, other), tuple(pairs))
                self.same(turned(one=one, other=other), tuple(pairs))
                self.assertEqual(len(pairs), apart(one, other))

    def test_wrong_stacks_in_order(self):
        for work in [turned, class_way, lambda one, other: shows_class_way(one, other, 5)]:
            for value in values(lambda value: isinstance(value, Stack)):
                self.refused(BadStack("one"), work, value, value)
                self.refused(BadStack("one"), work, value, Stack(X))
                self.refused(BadStack("other"), work, Stack(X), value)
            for unlike in [Stack(), Stack(Cell("x", 3), F), Stack(X, G), Stack(X, F, C), Stack(Log("x"), F)]:
                self.refused(Unlike("handlers"), work, Stack(X, F), unlike)
                self.refused(Unlike("handlers"), work, unlike, Stack(F, X))


class BesideTest(LayerCase):
    def test_all_orders_of_few(self):
        for handlers in SETS[:-4]:
            rows = normals_of(handlers)
            for stack in rows:
                expected = [row for row in rows if apart(stack, row) == 1]
                self.assertEqual(list(beside(stack)), expected)
                self.assertEqual(list(beside(stack=stack)), expected)

    def test_stacks_that_are_not_normal(self):
        for handlers in [[Y, X, F, C], [L, X, F, G]]:
            for stack in orders(*handlers):
                self.assertEqual(list(beside(stack)), list(beside(normal(stack))))

    def test_of_many_handlers(self):
        stack = Stack(*TEN)
        found = list(beside(stack))
        self.assertEqual([row.names for row in found], sorted(row.names for row in found))
        self.assertEqual([len(found), {apart(stack, row) for row in found}, len({row.names for row in found})], [21, {1}, 21])

    def test_wrong_stacks(self):
        for value in values(lambda value: isinstance(value, Stack)):
            self.refused(BadStack("stack"), lambda: next(beside(value)))


def shortest_ways(one, other, rows):
    """All shortest rows of normal stacks from one to other, each beside the one ahead."""
    ways = [[one]]
    while not any(way[-1] == other for way in ways):
        ways = [way + [row] for way in ways for row in rows if apart(way[-1], row) == 1 and row not in way]
    return [tuple(way) for way in ways if way[-1] == other]


class ClassWayTest(LayerCase):
    def test_the_first_of_all_shortest_ones(self):
        for handlers in [[], [X], [X, F], [X, F, C], [X, L, F], [Y, X, F], [X, F, G]]:
            rows = normals_of(handlers)
            for one, other in itertools.product(rows, repeat=2):
                ways = shortest_ways(one, other, rows)
                found = class_way(one, other)
                self.same([stack.names for stack in found], [stack.names for stack in min(
                    ways, key=lambda way: [stack.names for stack in way]
                )])
                self.assertIs(type(found), tuple)
                self.assertEqual(class_way(one=one, other=other), found)
                self.assertEqual(len(found), len(turned(one, other)) + 1)
                self.assertIs(shows_class_way(one, other, found), True)

    def test_of_more_handlers(self):
        rows = normals_of([Y, X, F, C])
        for one, other in [(rows[0], rows[-1]), (rows[3], rows[12]), (rows[17], rows[2])]:
            found = class_way(one, other)
            self.assertEqual(found, min(shortest_ways(one, other, rows), key=lambda way: [stack.names for stack in way]))
        one, other = Stack(*TEN), ~Stack(*TEN)
        found = class_way(one, other)
        self.assertEqual([len(found), found[0], found[-1]], [28, normal(one), normal(other)])
        self.assertTrue(all(is_normal(stack) for stack in found))
        self.assertIs(shows_class_way(one, other, found), True)

    def test_stacks_that_are_not_normal(self):
        for one in orders(Y, X, F):
            for other in orders(Y, X, F):
                self.assertEqual(class_way(one, other), class_way(normal(one), normal(other)))
                self.assertIs(shows_class_way(one, other, class_way(one, other)), True)


class ShowsClassWayTest(LayerCase):
    ONE, OTHER = Stack(X, Y, F, C), Stack(F, Y, X, C)

    def test_ways_that_are_not_the_first_or_not_normal(self):
        one, other = self.ONE, self.OTHER
        for texts in [
            ["cell x 2, cell y 3, failure f, choice", "cell x 2, failure f, cell y 3, choice", "failure f, cell x 2, cell y 3, choice"],
            ["cell x 2, cell y 3, failure f, choice", "cell y 3, failure f, cell x 2, choice", "failure f, cell x 2, cell y 3, choice"],
            ["cell y 3, cell x 2, failure f, choice", "cell y 3, failure f, cell x 2, choice", "failure f, cell y 3, cell x 2, choice"],
        ]:
            way = tuple(Stack.read(text) for text in texts)
            self.assertIs(shows_class_way(one, other, way), True)
            self.assertIs(shows_class_way(one=one, other=other, value=way), True)
            self.assertIs(shows_class_way(other, one, way[::-1]), True)
            self.assertIs(shows_class_way(other, one, way), False)
            self.assertIs(shows_class_way(one, other, list(way)), False)
            for bent in [
                way[:2], way[1:], way[::2], way + way[-1:], way[:1] + way, (way[0], way[1], way[0], way[1], way[2]), (way[0], way[0], way[2]),
                (way[0], way[1], way[0]), (way[2], way[1], way[2]), (way[0], way[2], way[2]), (way[0], way[2], way[1]), (way[1], way[0], way[1]), (), (way,), tuple(map(str, way)), (way[0], None, way[2]),
                (way[0], way[1] - "choice", way[2]), (way[0], way[1].renamed({"x": "z"}), way[2]), (way[0], way[1] + G, way[2]),
                (way[0], way[1], Stack.read("failure f, cell x 2, cell y 4, choice")), tuple(stack.names for stack in way),
            ]:
                self.assertIs(shows_class_way(one, other, bent), False)

    def test_within_one_class(self):
        one, other = Stack(X, Y, F), Stack(Y, X, F)
        for way, shown in [((one,), True), ((other,), True), ((), False), ((one, other), False), ([one], False), ((Stack(F, X, Y),), False)]:
            self.assertIs(shows_class_way(one, other, way), shown)
        self.assertIs(shows_class_way(Stack(), Stack(), (Stack(),)), True)
        self.assertIs(shows_class_way(Stack(), Stack(), ()), False)

    def test_ways_that_turn_one_pair_there_and_back(self):
        one, other = Stack(X, F), Stack(F, X)
        self.assertIs(shows_class_way(one, other, (one, other)), True)
        self.assertIs(shows_class_way(one, other, (one, other, one, other)), False)
        self.assertIs(shows_class_way(one, other, (other, one)), False)
        self.assertIs(shows_class_way(one, one, (one, other, one)), False)
        far = Stack(X, F, G)
        self.assertIs(shows_class_way(far, Stack(F, G, X), (far, Stack(G, F, X), Stack(F, G, X))), False)

    def test_values_of_other_kinds(self):
        for value in values():
            self.assertIs(shows_class_way(self.ONE, self.OTHER, value), False)
            self.assertIs(shows_class_way(self.ONE, self.ONE, (value,)), False)
            self.assertIs(shows_class_way(self.ONE, self.OTHER, (self.ONE, value, self.OTHER)), False)
