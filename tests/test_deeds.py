"""The nine deeds."""

import itertools

from layerseen import programs
from layerseen.errors import BadName, BadNumber, BadProgram, BadWord
from layerseen.names import is_name, is_word
from layerseen.programs import (
    Blocked, Catch, Choose, Copy, Deed, Fail, If, Leave, Program, Put, Say, Simple, Stop,
)
from tests.support import LayerCase, is_whole, same, values

BLOCK = Program(Put("y", 2), Stop())
OTHER = Program(Fail("g"))

# The parameters of each class, with what they are; and two rows of good arguments for each.
KINDS = {
    Put: [("cell", "name"), ("value", "number")],
    Copy: [("cell", "name"), ("other", "name")],
    Say: [("log", "name"), ("word", "word")],
    Fail: [("name", "name")],
    Leave: [],
    Stop: [],
    If: [("cell", "name"), ("value", "number"), ("block", "block"), ("other", "other")],
    Catch: [("name", "name"), ("block", "block"), ("other", "other")],
    Choose: [("block", "block"), ("other", "other")],
}
GOOD = {
    "name": ["x", "abcdefgh", "q"],
    "number": [0, 1, 2, 3],
    "word": ["hello", "put", "stop", "a"],
    "block": [BLOCK, Program(), OTHER],
    "other": [OTHER, Program(), BLOCK],
}
FITS = {
    "name": is_name,
    "number": lambda value: is_whole(value) and 0 <= value <= 3,
    "word": is_word,
    "block": lambda value: isinstance(value, Program),
    "other": lambda value: value is None or isinstance(value, Program),
}


def error_for(part, kind, value):
    if kind == "name":
        return BadName(value)
    if kind == "number":
        return BadNumber(value)
    if kind == "word":
        return BadWord(value)
    return BadProgram(part)


def samples():
    """Unlike deeds of all classes."""
    found = []
    for made, fields in KINDS.items():
        for row in itertools.product(*[GOOD[kind] for part, kind in fields]):
            found.append((made, row))
    return found


class DeedsTest(LayerCase):
    def test_classes(self):
        self.assertEqual(Deed.__bases__, (object,))
        self.assertEqual([Simple.__bases__, Blocked.__bases__], [(Deed,), (Deed,)])
        for made, fields in KINDS.items():
            self.assertEqual(made.__bases__, (Blocked if "block" in dict(fields) else Simple,))

    def test_words(self):
        words = {
            Put: "put", Copy: "copy", Say: "say", Fail: "fail", Leave: "none", Stop: "stop", If: "if",
            Catch: "catch", Choose: "choose",
        }
        for made, word in words.items():
            self.assertEqual(made.WORD, word)

    def test_what_each_class_defines_itself(self):
        for made in KINDS:
            for name in ["__init__", "__eq__", "__str__"]:
                self.assertIn(name, vars(made))
        self.assertIn("read", vars(Deed))
        self.assertTrue(all(made.__module__ == programs.__name__ for made in [*KINDS, Deed, Simple, Blocked]))

    def test_attributes_by_position_and_by_name(self):
        for made, row in samples():
            named = dict(zip([part for part, kind in KINDS[made]], row))
            for deed in [made(*row), made(**named), made(*row[:1], **dict(list(named.items())[1:]))]:
                self.assertIsInstance(deed, Deed)
                for part, value in named.items():
                    self.assertTrue(same(getattr(deed, part), value))

    def test_an_other_of_none_stands_for_no_deeds(self):
        for deed in [
            If("x", 1, BLOCK), If("x", 1, BLOCK, None), Catch("f", BLOCK), Catch("f", BLOCK, other=None),
            Choose(BLOCK), Choose(BLOCK, None),
        ]:
            self.same(deed.other, Program())
            self.same(deed.block, BLOCK)

    def test_equality(self):
        all_samples = samples()
        for made, row in all_samples:
            for also, others in all_samples:
                equal = made is also and row == others
                self.assertIs(made(*row) == also(*others), equal)
                self.assertIs(made(*row) != also(*others), not equal)

    def test_nothing_else_is_equal(self):
        for made, row in samples()[::5]:
            self.only_equal_to_itself(lambda: made(*row))
        self.assertFalse(Put("x", 1) == "put x 1")
        self.assertFalse(Fail("f") == ("f",))
        self.assertFalse(Stop() == Leave())
        self.assertFalse(Say("x", "y") == Copy("x", "y"))

    def test_texts(self):
        for deed, text in [
            (Put("x", 1), "put x 1"), (Put("abc", 0), "put abc 0"), (Copy("x", "y"), "copy x y"),
            (Copy("y", "y"), "copy y y"), (Say("l", "hello"), "say l hello"), (Say("log" + "s", "say"), "say logs say"),
            (Fail("f"), "fail f"), (Leave(), "none"), (Stop(), "stop"),
            (If("x", 3, BLOCK, OTHER), "if x = 3 ( put y 2 ; stop ) else ( fail g )"),
            (If("x", 0, Program()), "if x = 0 ( skip ) else ( skip )"),
            (Catch("f", BLOCK, OTHER), "catch f ( put y 2 ; stop ) else ( fail g )"),
            (Catch("f", Program(), BLOCK), "catch f ( skip ) else ( put y 2 ; stop )"),
            (Choose(BLOCK, OTHER), "choose ( put y 2 ; stop ) or ( fail g )"),
            (Choose(Program(Choose(OTHER))), "choose ( choose ( fail g ) or ( skip ) ) or ( skip )"),
        ]:
            self.assertEqual(str(deed), text)

    def test_each_wrong_argument(self):
        for made, fields in KINDS.items():
            good = [GOOD[kind][0] for part, kind in fields]
            for at, (part, kind) in enumerate(fields):
                for value in values(FITS[kind]):
                    row = good[:at] + [value] + good[at + 1:]
                    self.refused(error_for(part, kind, value), made, *row)
                    named = dict(zip([name for name, _ in fields], row))
                    self.refused(error_for(part, kind, value), made, **named)

    def test_good_edges(self):
        self.assertEqual([Put("x", value).value for value in range(4)], [0, 1, 2, 3])
        self.assertEqual(Say("l", "choice").word, "choice")

    def test_the_first_of_several_wrong_arguments(self):
        wrong = {
            "name": ["if", 5, None, ["x"]], "number": [4, -1, True, "1"], "word": ["", None, "ab cd", ("a",)],
            "block": [None, "skip", [], Stop()], "other": ["skip", 0, (), Stop()],
        }
        for made, fields in KINDS.items():
            for bad in itertools.product([False, True], repeat=len(fields)):
                if any(bad):
                    for turn in range(4):
                        row = [
                            wrong[kind][turn] if is_bad else GOOD[kind][0]
                            for is_bad, (part, kind) in zip(bad, fields)
                        ]
                        at = bad.index(True)
                        self.refused(error_for(*fields[at], row[at]), made, *row)

    def test_deeds_are_true(self):
        for made, row in samples()[::7]:
            self.assertTrue(made(*row))
