"""Helpers for values of all kinds."""

import itertools

from layerseen.ends import End
from layerseen.programs import Program
from layerseen.talks import Ended, Failed, Over, Stopped
from layerseen.values import ascending, copied, is_index, is_whole, same
from tests.support import LayerCase, values


class KindsTest(LayerCase):
    def test_integers(self):
        for value in values():
            self.assertIs(is_whole(value), type(value) is int)
            for many in [0, 1, 3, 61]:
                self.assertIs(is_index(value, many), type(value) is int and 0 <= value < many)

    def test_ascending(self):
        self.same(ascending(["b", "a", "ab", "b", "a"]), ("a", "ab", "b"))
        self.same(ascending({"x": 1, "f": 2}), ("f", "x"))
        self.same(ascending(()), ())


class SameTest(LayerCase):
    UNLIKE = [
        None, True, False, 0, 1, 2, "", "1", "a", (), [], {}, (1,), [1], (True,), [True], (0,), (1, 2), [1, 2], ((1,),), ([1],), [(1,)], [[True]],
        {"x": 1}, {"x": True}, {"x": (1,)}, {"x": [1]}, {"y": 1}, {"x": 1, "y": 2}, {"x": {"x": 1}}, {"x": {"x": True}}, Program(), Program.read("stop"),
        End(None, {"x": 1}, {}), End(None, {"x": True}, {}), End(None, {"x": 1}, ()), End((1,), {}, {}), End([1], {}, {}), Ended({}, {}), Over({}, {}),
        Stopped({}, {}), Ended({"x": 0}, {}), Ended({"x": False}, {}), Failed("f", {}, {}), Failed("f", {}, []), (Over({}, {}),), [Over({"x": 1}, {})],
        [Over({"x": True}, {})],
    ]

    def test_all_are_unlike(self):
        for (at, one), (place, other) in itertools.product(enumerate(self.UNLIKE), repeat=2):
            self.assertIs(same(one, other), at == place, f"{one!r} and {other!r}")

    def test_copies_are_the_same(self):
        for value in self.UNLIKE + values():
            if not isinstance(value, Exception):
                self.assertIs(same(value, copied(value)), True)
        self.assertIs(same({"x": 1, "y": 2}, {"y": 2, "x": 1}), True)


class CopiedTest(LayerCase):
    def test_nothing_reaches_a_copy(self):
        inner, end = [1], End(None, {"x": [1]}, {"l": ("a",)})
        value = {"k": (inner, [inner]), "e": [end, (end,)]}
        copy = copied(value)
        inner.append(2)
        end.cells["x"].append(2)
        end.logs.clear()
        value["z"] = 1
        other = End(None, {"x": [1]}, {"l": ("a",)})
        self.same(copy, {"k": ([1], [[1]]), "e": [other, (other,)]})
