"""What the tests share: values of all kinds, and checks that kinds count everywhere."""

import inspect
import itertools
import unittest

from layerseen.bench import Bench
from layerseen.compared import Exchanges, Parting
from layerseen.desk import Desk
from layerseen.ends import End
from layerseen.errors import BadName, LayerError, NoChange
from layerseen.handlers import Cell, Choice, Failure, Log
from layerseen.likeness import Apart, Same
from layerseen.programs import Catch, Choose, Leave, Program, Put, Stop
from layerseen.slim import Slim
from layerseen.stacks import Stack
from layerseen.tables import Table
from layerseen.talks import Broke, Ended, Failed, Over, Stopped, Talk
from layerseen.told import Sample, Told
from layerseen.values import same as strictly_same
from layerseen.where import Rule, Where
from layerseen.wishes import Near, Ring, Wish, Wishes

PLAIN_VALUES = [
    None, True, False, 0, 1, 2, 3, 4, 5, -1, -2, 60, 61, 10 ** 59, -(10 ** 59),
    "", " ", "x", "f", "put", "choice", "abcdefgh", "abcdefghi", "x1", "X", "x ", " x", "x\n", "1", "a b", "-",
    (), (0,), (1, 0), ("x",), (None,), [], [0], ["x"], [[], ()], {}, {"x": "y"}, {"x": 1}, {0: "x"}, {("x",): None},
]


def package_values():
    """New objects of the package."""
    return [
        Program(), Program(Put("x", 1)), Program(Choose(Program(Stop()))), Put("x", 1), Leave(), Catch("f", Program()),
        Cell("x"), Cell("x", 3), Log("l"), Failure("f"), Choice(), Stack(), Stack(Cell("x")),
        End(None, {}, {}), BadName("x"), NoChange(), Exchanges((0,)), Parting(Program(), (), ()), Wish("x", "f"),
        Wishes(), Wishes(Wish("x", "f")), Ring(("f", "x")), Near(Stack(), 0, {(): 0}),
        Ended({}, {}), Failed("f", {}, {}), Broke("f", {}, {}), Stopped({"x": 1}, {}), Over({}, {}), Talk(Program(), Stack(), {}),
        Table((), (), (), ()), Same(Table((), (), (), ())), Apart({}, (), (), ()), Sample(Program(), ()), Told(Stack(), ()),
        Where(()), Rule("over", Program(), Program(), ((),)), Slim(Program(), ()),
        Bench(Stack()), Desk(Stack()),
    ]


def values(but=lambda value: False):
    """Values of all kinds, without those that a test takes for good ones."""
    return [value for value in PLAIN_VALUES + package_values() if not but(value)]


def is_whole(value):
    return type(value) is int


def same(one, other):
    """Whether two values are equal and of the same kinds throughout."""
    if type(one) is not type(other):
        return False
    if isinstance(one, (list, tuple)):
        return len(one) == len(other) and all(same(*pair) for pair in zip(one, other))
    if isinstance(one, dict):
        return list(one) == list(other) and all(same(one[key], other[key]) for key in one)
    return one == other


def orders(*handlers):
    """All stacks of these handlers."""
    return [Stack(*row) for row in itertools.permutations(handlers)]


def orders_of_pairs(stack):
    """By the pairs of names of handlers that interact, the lesser first, whether the lesser one stands outside."""
    handlers = sorted(stack, key=lambda handler: handler.name)
    return {
        (one.name, other.name): stack.names.index(one.name) < stack.names.index(other.name)
        for one, other in itertools.combinations(handlers, 2) if one.meets(other)
    }


def apart(one, other):
    """In how many pairs of handlers that interact two orders differ."""
    pairs, others = orders_of_pairs(one), orders_of_pairs(other)
    return len([pair for pair in pairs if pairs[pair] != others[pair]])


class LayerCase(unittest.TestCase):
    """A test case with checks of the package's errors and of kinds."""

    def refused(self, error, work, *parts, **named):
        """A call raises an error of just this class with just these fields."""
        with self.assertRaises(LayerError) as caught:
            found = work(*parts, **named)
            self.fail(f"nothing raised, but {found!s} returned for {parts!r} {named!r}")
        self.assertIs(type(caught.exception), type(error), f"{parts!r} {named!r}")
        self.assertTrue(
            same(vars(caught.exception), vars(error)),
            f"{vars(caught.exception)!r} is not {vars(error)!r} for {parts!r} {named!r}",
        )

    def same(self, one, other):
        self.assertTrue(same(one, other), f"{one!r} is not {other!r}")

    def is_paper(self, made, truth=True):
        """A class keeps copies of any values under the names of its parameters, and is equal by these alone."""
        names = list(inspect.signature(made).parameters)
        for name in ["__init__", "__eq__"]:
            self.assertIn(name, vars(made))
        for at, name in enumerate(names):
            for value in values():
                row = [f"a{at}" for at in range(len(names))]
                row[at] = value
                for paper in [made(*row), made(**dict(zip(names, row))), made(*row[:1], **dict(zip(names[1:], row[1:])))]:
                    self.same([getattr(paper, part) for part in names], row)
                    self.assertIs(bool(paper), truth)
                row[at] = [{"here": value}]
                self.assertTrue(made(*row) == made(*row))
                self.assertFalse(made(*row) != made(*row))
                row[at] = (7, value)
                bent = [*row[:at], (8, value), *row[at + 1:]]
                self.assertFalse(made(*row) == made(*bent))
                self.assertIs(strictly_same([made(*row)], [made(*bent)]), False)
            for value, other in [(1, True), (0, False), ([1], (1,)), ({"x": 1}, {"x": True}), (End(1, 0, 0), End(True, 0, 0))]:
                row = [0] * len(names)
                row[at] = other
                self.assertIs(strictly_same(made(*row), made(*[*row[:at], value, *row[at + 1:]])), False)
                self.assertIs(strictly_same(made(*row), made(*row)), True)
            inner, end = {"x": [1]}, End(None, {"x": 1}, {"l": ()})
            row = [0] * len(names)
            row[at] = [(inner,), {"k": end}]
            paper = made(*row)
            row[at].append(5)
            inner["x"].append(2)
            end.cells["x"] = 5
            self.same(getattr(paper, name), [({"x": [1]},), {"k": End(None, {"x": 1}, {"l": ()})}])
        self.only_equal_to_itself(lambda: made(*range(len(names))))

    def only_equal_to_itself(self, make):
        """Two makes are equal, and equal to no value of another kind."""
        one = make()
        self.assertEqual(one, one)
        self.assertEqual(one, make())
        self.assertFalse(one != make())
        for value in values():
            if type(value) is not type(one):
                self.assertFalse(one == value)
                self.assertFalse(value == one)
                self.assertTrue(one != value)
