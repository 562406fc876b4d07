"""The texts of benches and of ends, there and back."""

import random

from layerseen.bench import Bench
from layerseen.ends import End, ends_text
from layerseen.errors import BadBook, BadText, NoChange, TooMany
from layerseen.player import ends
from layerseen.programs import Program
from layerseen.reader import read_bench, read_ends
from layerseen.stacks import Stack
from layerseen.texts import bench_text
from tests.oracle_bench import bench_fault, ends_fault
from tests.oracle_text import changed_texts
from tests.support import LayerCase, values
from tests.test_player_orders import random_program
from tests.test_programs import nested
from tests.test_talks import ORDERS

BENCHES = [
    "-", "choice", "cell x 2, failure f, choice, log l", "choice, failure f, cell x 3\nrisk : choose ( put x 1 ; fail f ) or ( skip )\ntwo : put x 1 ; put x 2",
    "-\na : skip\nb : none\nc : stop ; stop", "cell x 3, log l\na : if x = 2 ( say l a ; copy x x ) else ( skip )\nab : say l put\nb : put x 2",
]
VOCABULARY = ["x", "l", "put", "skip", ":", ";", "-", "choice", "choice,", "cell", "2", "5", "a", "z", "ab", "stop", "", "X", "(", ",", "\n", "a : skip", "\nc : skip", "skip\n"]
ENDS = [
    "-", "done", "failed f", "done ; x 1", "done ; l a b", "done ; l -", "failed f ; x 1 ; l - / done", "done ; a 0 ; c 3 ; b x y ; d - / failed done ; z 2 / done ; k failed",
    "done ; y 1 ; a b ; x - / done ; y 0", "failed f ; x 1 ; y 2 ; l a ; m b / failed g ; l put done",
]
END_VOCABULARY = ["done", "failed", "f", "x", "a", "l", "z", "put", "choice", ";", "/", "-", "0", "3", "4", "10", "-1", "A", "abcdefghi", "x,", ""]


def random_ends(dice):
    """Ends with ascending names, none for a cell and a log."""
    found = []
    for turn in range(dice.randrange(4)):
        names = dice.sample(["a", "b", "c", "ab", "x", "y", "z", "l", "done", "failed"], dice.randrange(6))
        cells = sorted(names[:dice.randrange(len(names) + 1)])
        logs = sorted(name for name in names if name not in cells)
        told = {name: tuple(dice.choice(["a", "b", "put", "done", "failed"]) for word in range(dice.randrange(3))) for name in logs}
        found.append(End(dice.choice([None, "f", "done"]), {name: dice.randrange(4) for name in cells}, told))
    return tuple(found)


class EndsTest(LayerCase):
    def test_there_and_back(self):
        for text in ENDS:
            found = read_ends(text)
            self.assertIs(type(found), tuple)
            self.assertEqual(ends_text(found), text)
            self.same(read_ends(text=text), found)
        dice = random.Random(111)
        for turn in range(500):
            found = random_ends(dice)
            back = read_ends(ends_text(found))
            self.same(back, found)
            self.same([list(end.cells) + list(end.logs) for end in back], [list(end.cells) + list(end.logs) for end in found])

    def test_ends_of_programs(self):
        dice = random.Random(112)
        for turn in range(200):
            try:
                found = ends(random_program(dice, 2), dice.choice(ORDERS))
            except TooMany:
                continue
            self.same(read_ends(ends_text(found)), found)

    def test_what_is_read(self):
        self.same(read_ends("-"), ())
        self.same(read_ends("failed f ; x 1 ; l - / done"), (End("f", {"x": 1}, {"l": ()}), End(None, {}, {})))
        self.same(read_ends("done ; y 0 ; a b c ; z -"), (End(None, {"y": 0}, {"a": ("b", "c"), "z": ()}),))

    def test_each_change(self):
        seen = {}
        for text in ENDS:
            for changed in changed_texts(text, END_VOCABULARY):
                seen[changed] = ends_fault(changed)
        for text, fault in seen.items():
            if fault is None:
                self.assertEqual(ends_text(read_ends(text)), text)
            else:
                self.refused(BadText(0, fault), read_ends, text)
        self.assertGreater(len([fault for fault in seen.values() if fault is None]), 200)

    def test_some_indexes(self):
        for text, word in [
            ("", 0), ("- -", 1), ("- / done", 1), ("done /", 2), ("done / -", 2), ("/ done", 0), ("done ;", 2), ("done ; x", 3), ("done ; x 4", 3), ("done ; x 1 1", 4),
            ("done ; x 1 ; x 1", 5), ("done ; x 1 ; x a", 5), ("done ; x 1 ; x -", 5), ("done ; y 1 ; x 1", 6), ("done ; y 1 ; x a", None), ("done ; l a ; l b", 5), ("done ; m a ; l b", 5),
            ("done ; l a ; x 1", 6), ("done ; l - ; m 1", 6), ("done ; l - a", 4), ("done ; l a -", 4), ("done ; l a 1", 4), ("failed", 1), ("failed if", 1), ("failed choice", 1),
            ("failed f f", 2), ("done done", 1), ("done ; put 1", 2), ("done ; l a /", 5), ("done ; y 1 ; a b ; y c", 8), ("done ; y 1 ; a b ; x 1", 9), ("done  ; x 1", 1), ("Done", 0),
            ("done ; x 1 ; y 1 ; x 1", 8), ("done ; x 1 / done ; x 1 ; a 1", 11), ("done ; a b ; x c / done ; a 1", None),
        ]:
            self.assertEqual(ends_fault(text), word, text)
            if word is None:
                self.assertEqual(ends_text(read_ends(text)), text)
            else:
                self.refused(BadText(0, word), read_ends, text)

    def test_values(self):
        for value in values(lambda value: isinstance(value, str) and ends_fault(value) is None):
            self.refused(BadText(0, ends_fault(value)), read_ends, value)


class BenchTest(LayerCase):
    def test_there_and_back(self):
        for text in BENCHES:
            bench = read_bench(text)
            self.assertIs(type(bench), Bench)
            self.assertEqual(bench_text(bench), text)
            self.assertEqual(bench_text(bench=bench), text)
            self.assertEqual(read_bench(text=text), bench)
            self.same(bench.history, ())
            self.refused(NoChange(), bench.undo)

    def test_random_benches(self):
        dice = random.Random(113)
        for turn in range(60):
            bench = Bench(dice.choice(ORDERS))
            for step in range(dice.randrange(14)):
                name = dice.choice(["a", "b", "ab", "ba", "x", "y", "z", "done", "f", "l", "in", "and"])
                bench.put(name, random_program(dice, 2))
            text = bench_text(bench)
            rows = [str(bench.stack_now)] + [f"{name} : {bench[name]}" for name in sorted(bench)]
            self.assertEqual(text.split("\n"), rows)
            back = read_bench(text)
            self.assertEqual(back, bench)
            self.same([back.history, list(back), str(back.stack_now)], [(), list(bench), str(bench.stack_now)])

    def test_bench_text_refused(self):
        for value in values(lambda value: isinstance(value, Bench)):
            self.refused(BadBook("bench"), bench_text, value)

    def test_each_change(self):
        seen = {}
        for text in BENCHES:
            rows = text.split("\n")
            for at, row in enumerate(rows):
                for changed in changed_texts(row, VOCABULARY):
                    seen["\n".join([*rows[:at], changed, *rows[at + 1:]])] = None
                seen["\n".join(rows[:at] + rows[at + 1:])] = None
                seen["\n".join(rows[:at + 1] + rows[at:])] = None
                seen["\n".join(rows[:at] + rows[at + 1:at + 2] + rows[at:at + 1] + rows[at + 2:])] = None
                seen["\n".join(rows[:at] + [""] + rows[at:])] = None
                seen["\n".join(rows[:at])] = None
            seen[text + "\n"] = seen["\n" + text] = None
        right = 0
        for text in seen:
            fault = bench_fault(text)
            if fault is None:
                right += 1
                self.assertEqual(bench_text(read_bench(text)), text)
            else:
                self.refused(BadText(*fault), read_bench, text)
        self.assertGreater(right, 50)

    def test_some_places(self):
        sixty = " ; ".join(["stop"] * 60)
        twelve = "\n".join(f"{name} : stop" for name in "abcdefghijkl")
        for text, line, word in [
            ("", 0, 0), ("cell x 2, cell x 2", 0, 0), ("choice, choice", 0, 0), ("cell x 5", 0, 2), ("choice\n", 1, 0), ("choice\na", 1, 1), ("choice\na :", 1, 2), ("choice\na : ", 1, 2),
            ("choice\na stop", 1, 1), ("choice\nput : stop", 1, 0), ("choice\na : put x 1", 1, 0), ("choice\na : put x 4", 1, 4), ("choice\na : stop stop", 1, 3), ("choice\na : skip\na : skip", 2, 0),
            ("choice\nb : skip\na : skip", 2, 0), ("choice\nb : put x 1\na : skip", 1, 0), ("choice\nb : skip\na : oops", 2, 0), ("choice\na : skip\n\nb : skip", 2, 0),
            ("cell a 2, cell b 2, cell c 2, cell d 2, cell e 2", 0, 0), ("log a, log b, log c\na : oops", 0, 0), ("cell x 2\na : put x 2", 1, 0), ("cell x 2\na : put x 2\noops", 1, 0),
            (f"-\na : {sixty} ; stop", 1, 0), (f"-\na : {sixty} ; stop stop", 1, 123), (f"-\na : {sixty} ; stop\nb : oops", 1, 0), ("-\na : choose ( skip ) or ( skip )", 1, 0),
            (f"-\n{twelve}\nm : stop", 13, 0), (f"-\n{twelve}\nm : stop\nn : oops", 13, 0), (f"-\n{twelve}\nm : stop oops", 13, 3), (f"-\n{twelve}\nl : stop", 13, 0), (f"-\n{twelve}\nm : put x 1", 13, 0),
            (f"choice\na : choose ( {nested(6)} ) or ( skip )", 1, 15), ("choice, \na : skip", 0, 1), ("cell x 2,\na : skip", 0, 3),
        ]:
            self.assertEqual(bench_fault(text), (line, word), text)
            self.refused(BadText(line, word), read_bench, text)
        self.assertEqual(len(read_bench(f"-\n{twelve}")), 12)
        self.assertEqual(read_bench(f"-\na : {sixty}")["a"].size, 60)

    def test_values(self):
        for value in values(lambda value: isinstance(value, str) and bench_fault(value) is None):
            self.refused(BadText(*bench_fault(value)), read_bench, value)
        for value in values(lambda value: isinstance(value, str)):
            self.refused(BadText(0, 0), read_bench, value)

    def test_a_new_bench_each_time(self):
        one, other = read_bench(BENCHES[3]), read_bench(BENCHES[3])
        one.drop("risk")
        one.set_stack(Stack.read("cell x 4"))
        self.same([list(other), str(other.stack_now)], [["risk", "two"], "choice, failure f, cell x 3"])
        self.same([one.history, one["two"]], [("drop", "stack"), Program.read("put x 1 ; put x 2")])
