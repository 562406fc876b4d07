"""The desk: each line with its answer, lines that cannot stand, refused ones, and lines at one stroke."""

import random

from layerseen.bench import Bench
from layerseen.classes import class_at, class_index, classes, many_classes
from layerseen.compared import compare
from layerseen.desk import Desk
from layerseen.ends import ends_text
from layerseen.errors import BadLine, BadStack, LayerError, NoChange
from layerseen.handlers import Choice, Failure, Keeping
from layerseen.programs import Program
from layerseen.reader import read_bench, read_ends
from layerseen.stacks import Stack
from layerseen.texts import bench_text
from layerseen.told import Sample, fitting
from layerseen.where import where
from layerseen.wishes import Wish, Wishes, nearest, stack_for
from tests.oracle_bench import line_fault
from tests.oracle_text import changed_texts
from tests.support import LayerCase, values
from tests.test_bench import shown
from tests.test_likeness import POOL
from tests.test_talks import both

ROW = "cell x 3, log l, failure f, choice"
STACK = Stack.read(ROW)
VOCABULARY = ["x", "f", "q", "put", "choice", "choice,", "in", "and", "or", "0", "5", "10", "skip", "stop", ";", "/", "-", "done", "cell", "(", ")", ",", "x,", "", "A"]
LINES = [
    "stack cell x 3, failure f", "stack -", "put a put x 1 ; stop", "put b skip", "put c choose ( say l a ) or ( none )", "drop a", "glue a", "glue a b", "glue a b a b",
    "exchange 0", "exchange 9", "slim a", "undo", "show", "play a", "alike a b", "where a b", "compare choice, cell x 3, log l, failure f", "compare -", "class", "wish x in f",
    "wish x in f and choice in x and f in choice", "near x in f", "near x in f and f in x", "fit a done ; x 1 ; l -", "fit a -", "fit b failed f ; x 0 ; l a b / done ; x 1 ; l -",
]


def answer_by(bench, line):
    """The answer to a line all of whose words can stand, by what the line tells; done for a bench."""
    words = line.split(" ")
    head, rest = words[0], words[1:]
    stack = bench.stack_now
    try:
        if head in ["put", "glue", "drop", "stack"]:
            work = {
                "put": lambda: bench.put(rest[0], Program.read(" ".join(rest[1:]))), "drop": lambda: bench.drop(*rest), "glue": lambda: bench.glue(*rest),
                "stack": lambda: bench.set_stack(Stack.read(" ".join(rest))),
            }
            work[head]()
            return "ok"
        if head == "exchange":
            return {True: "seen", False: "hidden"}[bench.exchange(int(rest[0]))]
        if head == "slim":
            return f"{bench.slim(rest[0])}"
        if head == "undo":
            return bench.undo()
        if head == "show":
            return " / ".join(bench_text(bench).split("\n"))
        if head == "play":
            return ends_text(bench.play(*rest))
        if head == "alike":
            found = bench.alike(*rest)
            return "alike" if found else "apart " + str(len(found.events))
        if head == "where":
            found = where(bench[rest[0]], bench[rest[1]], stack)
            return f"{len([paper for row, paper in found.rows if paper])} of {len(found.rows)}"
        if head == "compare":
            found = compare(stack, Stack.read(" ".join(rest)))
            return "same" + "".join(f" {place}" for place in found.places) if found else f"apart {found.program!s}"
        if head == "class":
            return f"{class_index(stack)} of {len(list(classes(stack)))}"
        if head in ["wish", "near"]:
            wishes = Wishes(*[Wish.read(" ".join(rest[at:at + 3])) for at in range(0, len(rest), 4)])
            found = stack_for(stack, wishes) if head == "wish" else nearest(stack, wishes)
            if hasattr(found, "names") and not isinstance(found, Stack):
                return "ring " + " ".join(found.names)
            return str(found) if head == "wish" else f"{found.many} {found.stack}"
        rows = fitting(stack, Sample(bench[rest[0]], read_ends(" ".join(rest[1:]))))
        return f"{len(list(rows))} of {len(list(classes(stack)))}"
    except LayerError as error:
        return f"refused {type(error).__name__}"


class Led:
    """Desks that are led by desk(..), say and run, and a bench that is led beside them."""

    def __init__(self, case, stack):
        self.case = case
        self.bench = Bench(stack)
        self.desks = [Desk(stack), Desk(stack), Desk(stack)]

    def check(self, line, answer=None):
        """Each desk gives the answer that the line tells, and does what it tells."""
        expected = answer_by(self.bench, line)
        if answer is not None:
            self.case.same(expected, answer)
        first, second, third = self.desks
        self.case.same([first(line), second.say(line), third.run(line)], [expected, expected, [expected]])
        for desk in self.desks:
            self.case.assertEqual(desk.bench_now(), self.bench)

    def take_back(self):
        """All changes are taken back, one after another."""
        for word in self.bench.history[::-1]:
            self.check("undo", word)
        self.check("undo", "refused NoChange")


class AnswersTest(LayerCase):
    def test_a_new_desk(self):
        for desk in [Desk(STACK), Desk(stack=STACK)]:
            self.same([desk("show"), desk("undo"), desk.run(), len(desk.bench_now())], [ROW, "refused NoChange", [], 0])
            self.assertEqual(desk.bench_now(), Bench(STACK))
        for value in values(lambda value: isinstance(value, Stack)):
            self.refused(BadStack("stack"), Desk, value)
        for name in ["__init__", "__call__", "say", "run", "bench_now"]:
            self.assertIn(name, vars(Desk))
        self.only_equal(Desk(STACK))

    def only_equal(self, desk):
        self.assertEqual(desk, desk)
        self.assertNotEqual(desk, Desk(STACK))
        for value in values():
            self.assertFalse(desk == value)

    def test_each_line_of_the_table(self):
        led = Led(self, STACK)
        for line, answer in [
            ("put a choose ( put x 1 ) or ( skip )", "ok"), ("play a", "done ; x 1 ; l - / done ; x 1 ; l -"), ("put b put x 1 ; put x 2", "ok"), ("slim b", "1"), ("slim b", "0"),
            ("glue c a b", "ok"), ("glue c", "ok"), ("glue c b c b", "ok"), ("show", ROW + " / a : choose ( put x 1 ) or ( skip ) / b : put x 2 / c : put x 2 ; put x 2"),
            ("alike b c", "alike"), ("alike a b", "apart 1"), ("where b c", "18 of 18"), ("where a b", "0 of 18"), ("exchange 0", "hidden"), ("exchange 1", "seen"), ("show", None), ("class", None),
            ("compare log l, cell x 3, failure f, choice", None), ("compare log l, failure f, cell x 3, choice", "same"), (f"compare {ROW}", None), ("compare cell x 3", "refused Unlike"),
            ("wish x in f and choice in x", None), ("wish x in f and f in x", "ring f x"), ("near x in f and choice in x", None), ("near x in choice and choice in f and f in x", "ring choice f x"),
            ("fit a done ; x 1 ; l - / done ; x 1 ; l -", None), ("fit a -", "0 of 18"), ("drop c", "ok"), ("stack choice, failure f, cell x 4", "ok"), ("undo", None), ("stack -", "refused Unfit"),
            ("put d none", "ok"), ("play d", "-"), ("alike d d", "alike"), ("put e stop", "ok"), ("where d e", "0 of 18"),
        ]:
            led.check(line, answer)
        led.take_back()

    def test_one_line_for_the_other_classes(self):
        led = Led(self, Stack.read("choice, log l, cell x 2"))
        for line in ["put a put x 1 ; none", "put b none", "put c choose ( put x 1 ) or ( put x 0 )", "put d choose ( put x 1 ) or ( skip )"]:
            led.check(line, "ok")
        for line, answer in [
            ("where a b", "2 of 4"), ("where c d", "0 of 4"), ("alike a b", "alike"), ("stack cell x 2, choice, log l", "ok"), ("alike a b", "apart 1"), ("alike c d", "apart 2"),
            ("compare choice, log l, cell x 2", "apart choose ( put x 1 ) or ( skip )"), ("compare cell x 2, choice, log l", "same"), ("class", "3 of 4"), ("exchange 0", "seen"), ("class", None),
            ("exchange 1", "hidden"), ("compare choice, cell x 2, log l", "same 1"), ("compare choice, log l, cell x 2", "same"), ("stack choice, log l, cell x 2", "ok"), ("compare choice, cell x 2, log l", "same 1"),
            ("wish choice in x", None), ("near choice in x", None), ("fit c done ; x 1 ; l - / done ; x 0 ; l -", "4 of 4"), ("fit d done ; x 1 ; l - / done ; x 1 ; l -", "2 of 4"),
        ]:
            led.check(line, answer)
        led.take_back()

    def test_places_of_exchanges(self):
        desk = Desk(Stack.read("cell a 2, cell b 2, cell c 2, log d"))
        self.same(desk("compare log d, cell c 2, cell b 2, cell a 2")[:5], "same ")
        Led(self, desk.bench_now().stack_now).check("compare log d, cell c 2, cell b 2, cell a 2")
        self.same(len(desk("compare log d, cell c 2, cell b 2, cell a 2").split(" ")), 7)

    def test_answers_agree_with_the_functions(self):
        dice = random.Random(121)
        for turn in range(12):
            row = list(STACK) + dice.choice([[], [Failure("g")]])
            dice.shuffle(row)
            led = Led(self, Stack(*row))
            for step in range(25):
                bench = led.bench
                name, other = dice.choice("abc"), dice.choice("abc")
                wishes = " and ".join(f"{inner} in {outer}" for inner, outer in [dice.sample(["x", "l", "f", "choice"], 2) for again in range(dice.randrange(1, 4))])
                order = list(bench.stack_now)
                dice.shuffle(order)
                told = ends_text(bench.play(name)) if name in bench else "-"
                led.check(dice.choice([
                    f"put {name} {dice.choice(POOL)}", f"put {other} {dice.choice(POOL)}", f"glue {name} {other} {name}", f"glue {name}", f"drop {name}", f"slim {name}", "undo", "show",
                    f"exchange {dice.randrange(6)}", f"play {name}", f"alike {name} {other}", f"where {name} {other}", f"compare {Stack(*order)!s}", f"stack {Stack(*order)!s}", "class",
                    f"wish {wishes}", f"near {wishes}", f"fit {name} {told}", f"fit {name} done",
                ]))
            led.take_back()

    def test_refused(self):
        wide = Stack.read("cell x 2, cell y 2, log l, log m, failure f, failure g")
        sixty = " ; ".join(["stop"] * 60)
        for stack, lines, line, answer in [
            (STACK, [], "undo", "NoChange"), (STACK, [], "drop a", "NoName"), (STACK, [], "slim a", "NoName"), (STACK, [], "play a", "NoName"), (STACK, [], "alike a b", "NoName"),
            (STACK, ["put a skip"], "alike a b", "NoName"), (STACK, ["put b skip"], "where a b", "NoName"), (STACK, ["put a skip"], "where a b", "NoName"), (STACK, [], "fit a -", "NoName"),
            (STACK, [], "glue a b", "NoName"), (STACK, [], "put a put y 1", "Unfit"), (STACK, [], "put a put x 3", "Unfit"), (STACK, ["put a put x 2"], "stack cell x 2", "Unfit"),
            (STACK, [], "stack cell x 2, log x", "Taken"), (STACK, [], "stack choice, choice", "Taken"), (STACK, [], "stack log a, log b, log c", "TooMany"), (STACK, [], "compare cell x 2, log x", "Taken"),
            (STACK, [], "compare log a, log b, log c", "TooMany"), (STACK, [], "compare cell x 2, log l, failure f, choice", "Unlike"), (STACK, [], "exchange 3", "NoPlace"), (STACK, [], "exchange 9", "NoPlace"),
            (Stack(), [], "exchange 0", "NoPlace"), (STACK, [], f"put a {sixty} ; stop", "TooMany"), (STACK, [f"put a {sixty}"], "glue b a a", "TooMany"), (STACK, [f"put {name} skip" for name in "abcdefghijkl"], "put m skip", "TooMany"),
            (STACK, [f"put {name} skip" for name in "abcdefghijkl"], "glue m", "TooMany"), (STACK, [f"put a {both(7)}"], "play a", "TooMany"), (STACK, [f"put a {both(7)}"], "slim a", "TooMany"),
            (STACK, [f"put a {both(7)}"], "alike a a", "TooMany"), (STACK, [f"put a {both(7)}"], "where a a", "TooMany"), (STACK, [f"put a {both(7)}"], "fit a done", "TooMany"), (wide, ["put a skip"], "where a a", "TooMany"),
            (wide + Choice(), ["put a skip"], "fit a done", "TooMany"), (STACK, [], "wish x in y", "NoName"), (STACK, [], "near y in x", "NoName"), (STACK, [], "wish x in l", "BadWish"), (STACK, [], "near l in x", "BadWish"),
            (STACK, [], "wish " + " and ".join(f"{a} in {b}" for a in "abcdefgh" for b in "klmnopqr"), "TooMany"), (STACK, [], "near " + " and ".join(f"{a} in {b}" for a in "abcdefgh" for b in "klmnopqr"), "TooMany"),
        ]:
            led = Led(self, stack)
            for given in lines:
                led.check(given, "ok")
            bench = led.bench.twin()
            for turn in range(2):
                led.check(line, f"refused {answer}")
            self.assertEqual(led.bench, bench)
            self.same(led.bench.history, ("put",) * len(lines))
            led.take_back()

    def test_undo(self):
        desk = Desk(STACK)
        self.same(desk.run(
            "put a put x 1 ; put x 1", "glue b a", "slim a", "exchange 0", "stack cell x 3", "drop a", "exchange 7", "play b", "undo", "undo", "undo", "undo", "show",
        ), ["ok", "ok", "1", "hidden", "ok", "ok", "refused NoPlace", "done ; x 1", "drop", "stack", "exchange", "slim", ROW + " / a : put x 1 ; put x 1 / b : put x 1 ; put x 1"])
        self.same(desk.run("undo", "undo", "undo", "show"), ["put", "put", "refused NoChange", ROW])

    def test_bench_now(self):
        desk = Desk(STACK)
        desk.run("put a skip", "exchange 0")
        bench = desk.bench_now()
        self.assertIs(type(bench), Bench)
        self.same([list(bench), bench.history, bench.stack_now], [["a"], (), STACK.exchanged(0)])
        self.refused(NoChange(), bench.undo)
        bench.drop("a")
        desk("put b skip")
        self.same([list(bench), list(desk.bench_now()), desk("undo"), desk("undo"), desk("show")], [[], ["a", "b"], "put", "exchange", f"{ROW} / a : skip"])


class LinesTest(LayerCase):
    def desk(self):
        desk = Desk(STACK)
        desk.run("put a put x 1", "put b say l a", "exchange 0")
        return desk

    def test_each_change_of_a_line(self):
        seen = {}
        for line in LINES:
            for changed in changed_texts(line, VOCABULARY):
                seen[changed] = line_fault(changed)
        self.assertGreater(len([fault for fault in seen.values() if fault is None]), 300)
        desk = self.desk()
        ahead = shown(desk.bench_now())
        for line, fault in seen.items():
            if fault is None:
                bench = self.desk()
                copied = bench.bench_now()
                if not line.startswith("undo"):
                    expected = answer_by(copied, line)
                    self.same(bench(line), expected)
                    self.assertEqual(bench.bench_now(), copied)
            else:
                for say in [desk, desk.say, desk.run]:
                    self.refused(BadLine(fault), say, line)
                self.assertEqual(shown(desk.bench_now()), ahead)

    def test_some_indexes(self):
        for line, word in [
            ("", 0), (" ", 0), ("puts a skip", 0), ("Put a skip", 0), ("undo ", 1), ("undo undo", 1), ("undo,", 0), ("show all", 1), ("class 1", 1), ("put", 1), ("put a", 2), ("put if skip", 1),
            ("put a ", 2), ("put a skip ", 3), ("put a put x 4", 4), ("put a skip,", 2), ("put a, skip", 1), ("drop", 1), ("drop a b", 2), ("drop 1", 1), ("glue", 1), ("glue a ", 2), ("glue a b 1", 3),
            ("glue a if", 2), ("glue a b, c", 2), ("exchange", 1), ("exchange 10", 1), ("exchange 01", 1), ("exchange -1", 1), ("exchange 1 2", 2), ("exchange x", 1), ("slim", 1), ("slim a b", 2), ("play a b", 2),
            ("alike a", 2), ("alike a b c", 3), ("where a", 2), ("where choice a", 1), ("stack", 1), ("stack cell", 2), ("stack cell x 5", 3), ("stack choice choice", 2), ("stack choice,", 2), ("stack - -", 2),
            ("compare", 1), ("compare cell x 2,", 4), ("wish", 1), ("wish x", 2), ("wish x in", 3), ("wish x in x", 3), ("wish x in f and", 5), ("wish x in f and x", 6), ("wish x in f, and", 3), ("near x on f", 2),
            ("near x in f or x in f", 4), ("near f in f", 3), ("fit", 1), ("fit a", 2), ("fit a done ;", 4), ("fit a done ; x 4", 5), ("fit a done,", 2), ("fit a - -", 3), ("fit a done ; x 1, ; l a", 5),
            ("fit a done ; l a ; x 1", 8), ("put a " + "choose ( " * 7, 15),
        ]:
            self.assertEqual(line_fault(line), word, line)
            self.refused(BadLine(word), Desk(STACK), line)

    def test_names_that_are_words_of_lines(self):
        desk = Desk(Stack.read("cell in 2, failure and, choice"))
        self.same(desk.run("put show put in 1", "put undo none", "glue class show undo", "wish in in and and and in choice", "near choice in in", "show"), [
            "ok", "ok", "ok", "choice, failure and, cell in 2", "0 cell in 2, failure and, choice", "cell in 2, failure and, choice / class : put in 1 ; none / show : put in 1 / undo : none",
        ])
        self.same(desk("near in in and and choice in in"), "1 failure and, cell in 2, choice")

    def test_values(self):
        desk = self.desk()
        ahead = shown(desk.bench_now())
        for value in values(lambda value: isinstance(value, str)):
            for say in [desk, desk.say, desk.run, lambda line: desk.run("put c skip", line, "undo"), lambda line: desk.run("undo", "undo", line)]:
                self.refused(BadLine(0), say, value)
            self.assertEqual(shown(desk.bench_now()), ahead)
        for value in values(lambda value: not isinstance(value, str)):
            self.refused(BadLine(line_fault(value)), desk, value)

    def test_run_that_ends_in_a_line_that_cannot_stand(self):
        desk = self.desk()
        ahead = shown(desk.bench_now())
        for lines, word in [
            (["put c skip", "drop a", "exchange 0", "drop"], 1), (["undo", "undo", "undo", "undo 1"], 1), (["put c skip", "oops", "put d skip"], 0), (["stack cell x 3, log l", "show", "put a skip skip"], 3),
            (["drop q", "put d stop", "near x in f and"], 5),
        ]:
            self.refused(BadLine(word), desk.run, *lines)
            self.assertEqual(shown(desk.bench_now()), ahead)
        self.same([desk("undo"), desk("undo"), desk("undo"), desk("undo")], ["exchange", "put", "put", "refused NoChange"])

    def test_what_can_be_taken_back_behind_run(self):
        desk = self.desk()
        self.same(desk.run("drop a", "drop q", "put c none"), ["ok", "refused NoName", "ok"])
        self.same(desk.run(*["undo"] * 6), ["put", "drop", "exchange", "put", "put", "refused NoChange"])


class WholeTest(LayerCase):
    def test_a_bench_and_its_text_led_alike_end_alike(self):
        dice = random.Random(122)
        for turn in range(15):
            desk = Desk(STACK)
            for step in range(8):
                desk(f"put {dice.choice('abcd')} {dice.choice(POOL)}")
            bench = desk.bench_now()
            back = read_bench(bench_text(bench))
            for step in range(20):
                name, place = dice.choice("abcd"), dice.randrange(3)
                line = dice.choice([f"exchange {place}", f"glue {name} a {name}", f"slim {name}", f"drop {name}", "undo", f"put {name} stop", f"stack {~bench.stack_now!s}"])
                self.same(answer_by(bench, line), answer_by(back, line))
                self.assertEqual(bench, back)
                self.same([bench.history, bench_text(bench)], [back.history, bench_text(back)])

    def test_a_hidden_exchange_changes_no_ends(self):
        dice = random.Random(123)
        hidden = 0
        for turn in range(40):
            desk = Desk(class_at(STACK, dice.randrange(18)))
            for name in "abcdef":
                desk(f"put {name} {dice.choice(POOL)}")
            for place in range(3):
                ends_ahead = [desk(f"play {name}") for name in "abcdef"]
                stack = desk.bench_now().stack_now
                answer = desk(f"exchange {place}")
                if answer == "hidden":
                    hidden += 1
                    self.same([desk(f"play {name}") for name in "abcdef"], ends_ahead)
                    self.assertEqual(desk.bench_now().unmoved(stack), tuple("abcdef"))
                self.same(desk(f"compare {stack!s}")[:4], "same" if answer == "hidden" else "apar")
        self.assertGreater(hidden, 10)

    def test_stacks_of_one_class_compare_as_the_same(self):
        dice = random.Random(124)
        for turn in range(60):
            row = list(STACK)
            dice.shuffle(row)
            desk = Desk(Stack(*row))
            dice.shuffle(row)
            other = Stack(*row)
            same = class_index(desk.bench_now().stack_now) == class_index(other)
            self.assertIs(desk(f"compare {other!s}").startswith("same"), same)
            desk_class = desk("class")
            desk(f"stack {other!s}")
            self.assertIs(desk("class") == desk_class, same)

    def test_what_is_slimmed_stays_alike(self):
        dice = random.Random(125)
        for turn in range(60):
            desk = Desk(class_at(STACK, dice.randrange(18)))
            parts = [dice.choice(POOL), dice.choice(POOL)]
            desk.run(f"put a {parts[0]}", f"put b {parts[1]}", "glue c a b", "glue d c", "slim d")
            self.same([desk("alike c d"), desk("slim d")], ["alike", "0"])

    def test_the_number_of_classes(self):
        for row in ["-", "choice", "cell x 2, log l", "cell x 2, failure f, failure g, log l, choice", ROW]:
            stack = Stack.read(row)
            things = len([handler for handler in stack if isinstance(handler, Keeping)])
            failures = len([handler for handler in stack if isinstance(handler, Failure)])
            self.same(Desk(stack)("class").split(" ")[2], str(many_classes(things, failures, Choice() in list(stack))))
