"""The texts of programs and deeds, there and back."""

from layerseen.errors import BadText, TooMany
from layerseen.programs import (
    Blocked, Catch, Choose, Copy, Deed, Fail, If, Leave, Program, Put, Say, Simple, Stop,
)
from tests.oracle_text import changed_texts, program_fault
from tests.support import LayerCase, values
from tests.test_deeds import samples
from tests.test_programs import DEEP, nested

TEXTS = [
    "skip", "none", "stop", "put x 1", "copy x y", "say l hello", "fail f", "put x 3 ; put abcdefgh 0 ; stop",
    "if x = 3 ( skip ) else ( say l stop )", "choose ( put x 1 ) or ( none ; stop )",
    "catch f ( put x 1 ; fail f ) else ( skip ) ; copy y x",
    "catch f ( choose ( fail g ) or ( if y = 0 ( skip ) else ( none ) ) ) else ( say l put ) ; put x 2 ; stop",
    "choose ( choose ( choose ( choose ( choose ( choose ( stop ) or ( skip ) ) or ( skip ) ) or ( skip ) ) or ( skip ) "
    ") or ( skip ) ) or ( catch f ( if x = 1 ( skip ) else ( skip ) ) else ( choose ( skip ) or ( none ) ) )",
]
DEED_TEXTS = [text for text in TEXTS if program_fault(text, "DEED") is None]
VOCABULARY = [
    "x", "put", "copy", "if", "else", "say", "fail", "catch", "choose", "or", "none", "stop", "skip", "cell", "choice",
    "0", "3", "4", "-1", "01", "=", "(", ")", ";", "X", "abcdefghi", "x,", "()", "",
]


class ReadingTest(LayerCase):
    def test_there_and_back(self):
        for text in TEXTS:
            self.assertEqual(str(Program.read(text)), text)
            self.assertEqual(str(Program.read(text=text)), text)
        for text in DEED_TEXTS:
            self.assertEqual(str(Deed.read(text)), text)
            self.assertEqual(Program.read(text), Program(Deed.read(text)))
        self.assertEqual(Program.read(str(DEEP)), DEEP)
        self.assertEqual(Program.read("skip"), Program())
        self.assertGreater(len(DEED_TEXTS), 8)

    def test_deeds_there_and_back(self):
        for made, row in samples():
            deed = made(*row)
            self.assertEqual(Deed.read(str(deed)), deed)
            self.assertEqual(Program.read(str(Program(deed))), Program(deed))

    def test_what_is_read(self):
        self.assertEqual(Program.read("put x 1 ; copy y x ; say l a ; fail f ; none ; stop"), Program(
            Put("x", 1), Copy("y", "x"), Say("l", "a"), Fail("f"), Leave(), Stop(),
        ))
        self.assertEqual(
            Deed.read("if x = 3 ( stop ) else ( none ; stop )"),
            If("x", 3, Program(Stop()), Program(Leave(), Stop())),
        )
        self.assertEqual(
            Deed.read("catch f ( skip ) else ( choose ( stop ) or ( none ) )"),
            Catch("f", Program(), Program(Choose(Program(Stop()), Program(Leave())))),
        )

    def test_read_of_other_classes(self):
        for made in [Deed, Simple, Blocked, Put, Copy, Say, Fail, Leave, Stop, If, Catch, Choose]:
            self.assertEqual(made.read("put x 1"), Put("x", 1))
            self.assertEqual(made.read(text="none"), Leave())
            self.assertEqual(made.read("choose ( stop ) or ( skip )"), Choose(Program(Stop())))
            self.refused(BadText(0, 2), made.read, "put x 4")
            self.refused(BadText(0, 0), made.read, 5)

    def test_each_change_of_a_program(self):
        seen = {}
        for text in TEXTS:
            for changed in changed_texts(text, VOCABULARY):
                seen[changed] = program_fault(changed)
        for text, fault in seen.items():
            if fault is None:
                self.assertEqual(str(Program.read(text)), text)
            else:
                self.refused(BadText(0, fault), Program.read, text)
        self.assertGreater(len([fault for fault in seen.values() if fault is None]), 100)

    def test_each_change_of_a_deed(self):
        for text in DEED_TEXTS:
            for changed in changed_texts(text, VOCABULARY):
                fault = program_fault(changed, "DEED")
                if fault is None:
                    self.assertEqual(str(Deed.read(changed)), changed)
                else:
                    self.refused(BadText(0, fault), Deed.read, changed)

    def test_some_indexes(self):
        for text, word in [
            ("", 0), (" ", 0), ("skip ", 1), ("skip skip", 1), ("skip ; stop", 1), ("stop ; skip", 2), ("stop ;", 2),
            ("stop ; ", 2), ("stop stop", 1), ("put", 1), ("put x", 2), ("put x 4", 2), ("put  x 1", 1), ("put if 1", 1),
            ("copy x 1", 2), ("say l", 2), ("say l a1", 2), ("fail choice", 1), ("if x 1", 2), ("if x = 1 skip", 4),
            ("if x = 1 ( skip", 6), ("if x = 1 ( skip )", 7), ("if x = 1 ( skip ) or", 7), ("if x = 1 ( skip ) else", 8),
            ("if x = 1 ( ) else ( skip )", 5), ("choose ( skip ) else ( skip )", 4), ("choose ( skip ) or ( skip ) )", 8),
            ("choose ( skip ; stop ) or ( skip )", 3), ("catch f ( stop ; ) else ( skip )", 5), ("SKIP", 0), ("skip\n", 0),
            ("put x 1;", 2), ("put x 1 ; cell x 2", 4),
        ]:
            self.refused(BadText(0, word), Program.read, text)

    def test_a_seventh_open_block(self):
        self.assertEqual(Program.read(str(nested(6, Stop()))), nested(6, Stop()))
        for deep in [" ".join(["choose ("] * 6), " ".join(["choose ( skip ) or ("] * 6)]:
            many_words = len(deep.split(" "))
            for head, at in [("choose", 1), ("if x = 1", 4), ("catch f", 2)]:
                for made in [Program, Deed]:
                    self.refused(BadText(0, many_words + at), made.read, f"{deep} {head} ( skip )")
                    self.refused(BadText(0, many_words + at), made.read, f"{deep} {head}")
            for head, at in [("chose", 0), ("if x = 4", 3), ("catch or", 1)]:
                self.refused(BadText(0, many_words + at), Program.read, f"{deep} {head} ( skip )")

    def test_a_deed_that_is_written_but_not_read(self):
        deed = Choose(nested(6, Stop()))
        self.refused(BadText(0, 13), Deed.read, str(deed))
        self.assertEqual(Deed.read(str(Choose(nested(5, Stop())))), Choose(nested(5, Stop())))

    def test_values_that_are_no_strings(self):
        for value in values(lambda value: isinstance(value, str)):
            self.refused(BadText(0, 0), Program.read, value)
            self.refused(BadText(0, 0), Deed.read, value)

    def test_strings_that_are_no_texts(self):
        for value in values(lambda value: not isinstance(value, str)):
            self.refused(BadText(0, program_fault(value)), Program.read, value)
            self.refused(BadText(0, program_fault(value)), Deed.read, value)

    def test_a_text_of_skip_is_no_deed(self):
        self.refused(BadText(0, 0), Deed.read, "skip")
        self.refused(BadText(0, 3), Deed.read, "put x 1 ; stop")

    def test_sixty_one_deeds(self):
        row = " ; ".join(["stop"] * 60)
        self.assertEqual(Program.read(row).size, 60)
        self.refused(TooMany("deeds", 60), Program.read, row + " ; stop")
        self.refused(BadText(0, 121), Program.read, row + " ; stop stop")
        self.refused(BadText(0, 122), Program.read, row + " ; stop ;")
        inner = f"choose ( {row} ) or ( skip )"
        self.refused(TooMany("deeds", 60), Program.read, inner)
        self.assertEqual(Deed.read(inner), Choose(Program(Stop()) * 60))
        self.refused(TooMany("deeds", 60), Deed.read, f"choose ( {row} ; stop ) or ( skip )")
        self.refused(BadText(0, 127), Deed.read, f"choose ( {row} ; stop ) or ( if )")
