"""What the tests share: values of all kinds, and checks that kinds count everywhere."""

import unittest

from layerseen.ends import End
from layerseen.errors import BadName, LayerError, NoChange
from layerseen.handlers import Cell, Choice, Failure, Log
from layerseen.programs import Catch, Choose, Leave, Program, Put, Stop
from layerseen.stacks import Stack

PLAIN_VALUES = [
    None, True, False, 0, 1, 2, 3, 4, 5, -1, -2, 60, 61, 10 ** 59, -(10 ** 59),
    "", " ", "x", "f", "put", "choice", "abcdefgh", "abcdefghi", "x1", "X", "x ", " x", "x\n", "1", "a b", "-",
    (), (0,), (1, 0), ("x",), (None,), [], [0], ["x"], [[], ()], {}, {"x": "y"}, {"x": 1}, {0: "x"}, {("x",): None},
]


def package_values():
    """New objects of the package."""
    return [
        Program(), Program(Put("x", 1)), Program(Choose(Program(Stop()))), Put("x", 1), Leave(), Catch("f", Program()),
        Cell("x"), Cell("x", 3), Log("l"), Failure("f"), Choice(), Stack(), Stack(Cell("x")),
        End(None, {}, {}), BadName("x"), NoChange(),
    ]


def values(but=lambda value: False):
    """Values of all kinds, without those that a test takes for good ones."""
    return [value for value in PLAIN_VALUES + package_values() if not but(value)]


def is_whole(value):
    return type(value) is int


def same(one, other):
    """Whether two values are equal and of the same kinds throughout."""
    if type(one) is not type(other):
        return False
    if isinstance(one, (list, tuple)):
        return len(one) == len(other) and all(same(*pair) for pair in zip(one, other))
    if isinstance(one, dict):
        return list(one) == list(other) and all(same(one[key], other[key]) for key in one)
    return one == other


class LayerCase(unittest.TestCase):
    """A test case with checks of the package's errors and of kinds."""

    def refused(self, error, work, *parts, **named):
        """A call raises an error of just this class with just these fields."""
        with self.assertRaises(LayerError) as caught:
            found = work(*parts, **named)
            self.fail(f"nothing raised, but {found!s} returned for {parts!r} {named!r}")
        self.assertIs(type(caught.exception), type(error), f"{parts!r} {named!r}")
        self.assertTrue(
            same(vars(caught.exception), vars(error)),
            f"{vars(caught.exception)!r} is not {vars(error)!r} for {parts!r} {named!r}",
        )

    def same(self, one, other):
        self.assertTrue(same(one, other), f"{one!r} is not {other!r}")

    def only_equal_to_itself(self, make):
        """Two makes are equal, and equal to no value of another kind."""
        one = make()
        self.assertEqual(one, one)
        self.assertEqual(one, make())
        self.assertFalse(one != make())
        for value in values():
            if type(value) is not type(one):
                self.assertFalse(one == value)
                self.assertFalse(value == one)
                self.assertTrue(one != value)
