"""Ends as papers, and their texts."""

from layerseen.ends import End, ends_text
from layerseen.player import ends
from layerseen.programs import Program
from layerseen.stacks import Stack
from tests.support import LayerCase, values


class EndTest(LayerCase):
    def test_fields_by_position_and_by_name(self):
        for value in values():
            for other in [0, "x", {"x": 1}, [value]]:
                for end in [
                    End(value, other, None), End(failed=value, cells=other, logs=None), End(value, logs=None, cells=other),
                ]:
                    self.same([end.failed, end.cells, end.logs], [value, other, None])
                end = End(None, value, other)
                self.same([end.failed, end.cells, end.logs], [None, value, other])
                end = End(other, None, value)
                self.same([end.failed, end.cells, end.logs], [other, None, value])

    def test_what_it_defines_itself(self):
        for name in ["__init__", "__eq__", "__str__"]:
            self.assertIn(name, vars(End))

    def test_equality(self):
        self.only_equal_to_itself(lambda: End(None, {"x": 1}, {"l": ("a",)}))
        self.only_equal_to_itself(lambda: End([Program()], (Stack(),), None))
        one = End(None, {"x": 1}, {"l": ("a",)})
        for other in [
            End("f", {"x": 1}, {"l": ("a",)}), End(None, {"x": 0}, {"l": ("a",)}), End(None, {"x": 1}, {"l": ()}),
            End(None, {"y": 1}, {"l": ("a",)}), End(None, {"x": 1}, {"l": ["a"]}), End(None, {"x": 1}, {}), End(None, {}, {}),
            End(None, {"l": ("a",)}, {"x": 1}),
        ]:
            self.assertFalse(one == other)
            self.assertTrue(one != other)
        self.assertEqual(End(None, {"x": 1, "y": 0}, {}), End(None, {"y": 0, "x": 1}, {}))

    def test_what_is_done_to_an_argument_afterwards_changes_nothing(self):
        inner = ["a"]
        parts = [[inner], {"x": inner}, {"l": (inner,)}]
        end = End(*parts)
        inner.append("b")
        parts[0].append(1)
        parts[1]["y"] = 2
        parts[2].clear()
        self.same([end.failed, end.cells, end.logs], [[["a"]], {"x": ["a"]}, {"l": (["a"],)}])

    def test_ends_are_true(self):
        self.assertTrue(End(None, {}, {}))
        self.assertTrue(End(None, None, None))

    def test_texts(self):
        for end, text in [
            (End(None, {}, {}), "done"), (End("f", {}, {}), "failed f"), (End(None, {"x": 1}, {}), "done ; x 1"),
            (End("abc", {"x": 0, "y": 3}, {}), "failed abc ; x 0 ; y 3"), (End(None, {}, {"l": ()}), "done ; l -"),
            (End(None, {}, {"l": ("a",), "m": ("put", "b")}), "done ; l a ; m put b"),
            (End("f", {"x": 2, "z": 1}, {"a": ("b", "b"), "y": ()}), "failed f ; x 2 ; z 1 ; a b b ; y -"),
            (End(None, {"y": 1, "x": 0}, {"m": (), "l": ()}), "done ; x 0 ; y 1 ; l - ; m -"),
        ]:
            self.assertEqual(str(end), text)

    def test_texts_of_several(self):
        one, other = End(None, {"x": 1}, {}), End("f", {}, {"l": ("a",)})
        for row, text in [
            ((), "-"), ((one,), "done ; x 1"), ((one, other), "done ; x 1 / failed f ; l a"),
            ((other, other, one), "failed f ; l a / failed f ; l a / done ; x 1"),
        ]:
            self.assertEqual(ends_text(row), text)
            self.assertEqual(ends_text(ends=row), text)

    def test_ends_of_a_run_are_new(self):
        program, stack = Program.read("choose ( put x 1 ) or ( skip )"), Stack.read("cell x 2, choice")
        first = ends(program, stack)
        first[0].cells["x"] = 9
        first[0].logs["l"] = ()
        self.assertEqual(str(first[1]), "done ; x 1")
        self.assertEqual(ends_text(ends(program, stack)), "done ; x 1 / done ; x 1")
