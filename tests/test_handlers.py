"""Cells, logs, failures and the choice."""

import itertools

from layerseen import handlers
from layerseen.errors import BadName, BadNumber, BadText
from layerseen.handlers import Cell, Choice, Failure, Handler, Keeping, Log, Named, Turning
from layerseen.names import is_name
from tests.oracle_text import changed_texts, handler_fault
from tests.support import LayerCase, is_whole, values

CLASSES = [Handler, Named, Keeping, Turning, Cell, Log, Failure, Choice]
VOCABULARY = ["cell", "log", "failure", "choice", "x", "1", "2", "4", "5", "02", "-", ",", "choice,", "2,", "put", "X", ""]


def samples():
    """Unlike handlers of all classes."""
    return [
        *[Cell(name, size) for name in ["x", "y", "abcdefgh"] for size in [2, 3, 4]],
        *[made(name) for made in [Log, Failure] for name in ["x", "y", "abcdefgh"]],
        Choice(),
    ]


class HandlersTest(LayerCase):
    def test_classes(self):
        self.assertEqual([made.__bases__ for made in CLASSES], [
            (object,), (Handler,), (Handler,), (Handler,), (Named, Keeping), (Named, Keeping), (Named, Turning), (Turning,),
        ])
        self.assertEqual([made.WORD for made in CLASSES[4:]], ["cell", "log", "failure", "choice"])
        self.same([Cell.LEAST, Cell.MOST], [2, 4])

    def test_what_each_class_defines_itself(self):
        for made in CLASSES:
            self.assertIn("read", vars(made))
            self.assertEqual(made.__module__, handlers.__name__)
        for made in CLASSES[4:]:
            for name in ["__init__", "__eq__", "__str__"]:
                self.assertIn(name, vars(made))
        self.assertIn("meets", vars(Handler))

    def test_attributes_by_position_and_by_name(self):
        for size in [2, 3, 4]:
            for cell in [Cell("x", size), Cell("x", size=size), Cell(name="x", size=size), Cell(size=size, name="x")]:
                self.same([cell.name, cell.size], ["x", size])
        self.same([Cell("x").size, Cell(name="abcdefgh").size, Cell("abcdefgh").name], [2, 2, "abcdefgh"])
        for made in [Log, Failure]:
            self.same([made("x").name, made(name="abcdefgh").name], ["x", "abcdefgh"])
        self.assertEqual(Choice().name, "choice")

    def test_texts(self):
        self.assertEqual(
            [str(handler) for handler in [Cell("x"), Cell("x", 2), Cell("abc", 3), Cell("y", 4), Log("l"), Failure("f")]],
            ["cell x 2", "cell x 2", "cell abc 3", "cell y 4", "log l", "failure f"],
        )
        self.assertEqual(str(Choice()), "choice")

    def test_names_that_are_none(self):
        for value in values(is_name):
            for made in [Cell, Log, Failure]:
                self.refused(BadName(value), made, value)
                self.refused(BadName(value), made, name=value)
            for size in [3, 5, None, value]:
                self.refused(BadName(value), Cell, value, size)

    def test_sizes_that_are_none(self):
        for value in [1, 5, 0, -2, True, "2", (2,), *values(lambda value: is_whole(value) and 2 <= value <= 4)]:
            self.refused(BadNumber(value), Cell, "x", value)
            self.refused(BadNumber(value), Cell, name="x", size=value)

    def test_equality(self):
        rows = samples()
        for (at, one), (place, other) in itertools.product(enumerate(rows), enumerate(samples())):
            self.assertIs(one == other, at == place)
            self.assertIs(one != other, at != place)
        for at in range(len(rows)):
            self.only_equal_to_itself(lambda: samples()[at])
        self.assertFalse(Choice() == "choice")
        self.assertFalse(Log("x") == "log x")

    def test_meets(self):
        kinds = {"cell": "thing", "log": "thing", "failure": "failure", "choice": "choice"}
        for one in samples():
            for other in samples():
                self.assertIs(one.meets(other), kinds[one.WORD] != kinds[other.WORD])
                self.assertIs(one.meets(other=other), kinds[one.WORD] != kinds[other.WORD])

    def test_meets_of_values_that_are_no_handlers(self):
        for value in [*values(lambda value: isinstance(value, Handler)), Cell, Choice, Handler]:
            for handler in samples():
                self.assertIs(handler.meets(value), False)

    def test_handlers_are_true(self):
        self.assertTrue(all(samples()))


class ReadingTest(LayerCase):
    def test_there_and_back_of_each_class(self):
        for handler in samples():
            for made in CLASSES:
                self.assertEqual(made.read(str(handler)), handler)
                self.assertEqual(made.read(text=str(handler)), handler)

    def test_each_change(self):
        for text in ["cell x 2", "cell abcdefgh 4", "log l", "failure f", "choice"]:
            for changed in changed_texts(text, VOCABULARY):
                fault = handler_fault(changed)
                for made in CLASSES:
                    if fault is None:
                        self.assertEqual(str(made.read(changed)), changed)
                    else:
                        self.refused(BadText(0, fault), made.read, changed)

    def test_some_indexes(self):
        for text, word in [
            ("", 0), ("cell", 1), ("cell x", 2), ("cell x 5", 2), ("cell x 1", 2), ("cell x 2 ", 3), ("cell cell 2", 1),
            ("cell x 2,", 2), ("log l,", 1), ("choice,", 0), ("choice x", 1), ("failure", 1), ("log put", 1), ("Log l", 0),
            ("-", 0), ("cell  x 2", 1), ("log l m", 2),
        ]:
            self.refused(BadText(0, word), Handler.read, text)

    def test_values_that_are_no_strings(self):
        for value in values(lambda value: isinstance(value, str)):
            for made in CLASSES:
                self.refused(BadText(0, 0), made.read, value)
