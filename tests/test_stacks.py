"""Stacks as rows of handlers, their orders and their texts."""

import itertools

from layerseen.errors import BadHandler, BadProgram, BadStack, BadText, NoName, NoPlace, Taken, TooMany, Unfit
from layerseen.handlers import Cell, Choice, Failure, Handler, Log
from layerseen.names import is_name
from layerseen.programs import Program, Put
from layerseen.stacks import Stack
from tests.oracle_text import changed_texts, stack_fault
from tests.support import LayerCase, is_whole, values

X, Y, L, F, G, C = Cell("x"), Cell("y", 3), Log("l"), Failure("f"), Failure("g"), Choice()
ALL = [X, L, F, C, Y, G]
STACK = Stack(*ALL)
BOUNDS = [None, 0, 1, 3, 6, 7, 100, -1, -2, -6, -7, 10 ** 30, -(10 ** 30)]


def names_there(value):
    return isinstance(value, str) and value in ["x", "l", "f", "choice", "y", "g"]


def kind_of(handler):
    return "thing" if handler.WORD in ["cell", "log"] else handler.WORD


class MakingTest(LayerCase):
    def test_what_it_defines_itself(self):
        for name in (
            "__init__ __len__ __iter__ __getitem__ __contains__ __eq__ __str__ __add__ __radd__ __sub__ __floordiv__ "
            "__mod__ __invert__ __le__ of read place handler is_inside taken_back kept exchanged moved renamed check takes"
        ).split():
            self.assertIn(name, vars(Stack))

    def test_of_a_list_or_tuple(self):
        for made in [Stack(*ALL), Stack.of(ALL), Stack.of(tuple(ALL)), Stack.of(handlers=ALL)]:
            self.assertEqual(list(made), ALL)
        self.assertEqual([Stack.of([]), Stack.of(()), list(Stack())], [Stack(), Stack(), []])

    def test_a_list_that_is_changed_afterwards(self):
        row = [X, F]
        stack = Stack.of(row)
        row.append(C)
        row[0] = L
        self.assertEqual([list(stack), stack.names, stack.pairs], [[X, F], ("x", "f"), (("x", "f"),)])

    def test_of_other_values(self):
        for value in values(lambda value: isinstance(value, (list, tuple))):
            self.refused(BadStack("handlers"), Stack.of, value)

    def test_what_is_no_handler(self):
        for value in values(lambda value: isinstance(value, Handler)):
            for made in [Stack, lambda *row: Stack.of(list(row)), lambda *row: Stack.of(row)]:
                self.refused(BadHandler(0), made, value)
                self.refused(BadHandler(0), made, value, X, value)
                self.refused(BadHandler(3), made, X, X, F, value, 7)

    def test_names_that_stand_twice(self):
        for row, name in [
            ((X, X), "x"), ((X, Cell("x", 3)), "x"), ((X, L, Log("x")), "x"), ((F, Cell("f")), "f"), ((C, C), "choice"),
            ((C, X, Choice()), "choice"), ((X, Y, Y, X), "y"), ((X, Y, Failure("x"), Log("y")), "x"), ((L, C, X, C, L), "choice"),
        ]:
            self.refused(Taken(name), Stack, *row)
            self.refused(Taken(name), Stack.of, list(row))
        self.refused(BadHandler(2), Stack, X, X, None)

    def test_too_many(self):
        cells = [Cell(name) for name in "abcde"]
        logs = [Log(name) for name in "lmn"]
        failures = [Failure(name) for name in "pqrs"]
        self.assertEqual(len(Stack(*cells[:4], *logs[:2], *failures[:3], C)), 10)
        self.refused(TooMany("cells", 4), Stack, *cells)
        self.refused(TooMany("logs", 2), Stack, *logs)
        self.refused(TooMany("failures", 3), Stack, *failures)
        self.refused(TooMany("cells", 4), Stack, *failures, *logs, *cells)
        self.refused(TooMany("logs", 2), Stack, *failures, *logs, *cells[:4])
        self.refused(TooMany("failures", 3), Stack, *failures, *logs[:2], *cells[:4])
        self.refused(Taken("a"), Stack, *cells, *logs, cells[0])
        self.refused(BadHandler(8), Stack, *cells, *logs, 5)


class RowTest(LayerCase):
    def test_length_and_truth(self):
        self.assertEqual([len(Stack()), len(Stack(X)), len(STACK)], [0, 1, 6])
        self.assertEqual([bool(Stack()), bool(Stack(X)), bool(STACK)], [False, True, True])

    def test_iteration_and_items(self):
        self.assertEqual([handler for handler in STACK], ALL)
        for k in range(-6, 6):
            self.assertEqual(STACK[k], ALL[k])
        for k in [6, 7, -7, 10 ** 30, -(10 ** 30)]:
            with self.assertRaises(IndexError):
                STACK[k]
        with self.assertRaises(IndexError):
            Stack()[0]

    def test_slices(self):
        for start in BOUNDS:
            for end in BOUNDS:
                self.assertEqual(STACK[start:end], Stack.of(ALL[start:end]))
                for step in [None, 1, 2, -1, -3, 10 ** 30]:
                    found = STACK[start:end:step]
                    self.assertIs(type(found), Stack)
                    self.assertEqual(list(found), ALL[start:end:step])

    def test_contains(self):
        for value in values():
            self.assertIs(value in STACK, names_there(value))
        for handler in ALL:
            self.assertIs(handler in STACK, False)
            self.assertIs(handler.name in STACK, True)
        self.assertIs("choice" in Stack(X), False)
        self.assertIs("x" in Stack(), False)

    def test_place_and_handler(self):
        for at, handler in enumerate(ALL):
            self.same(STACK.place(handler.name), at)
            self.same(STACK.place(name=handler.name), at)
            self.assertEqual(STACK.handler(handler.name), handler)
            self.assertEqual(STACK.handler(name=handler.name), handler)
        for value in values(names_there):
            for work in [STACK.place, STACK.handler]:
                self.refused(NoName(value), work, value)
            self.refused(NoName(value), Stack().place, value)

    def test_is_inside(self):
        for at, one in enumerate(ALL):
            for place, other in enumerate(ALL):
                self.assertIs(STACK.is_inside(one.name, other.name), at > place)
                self.assertIs(STACK.is_inside(name=one.name, other=other.name), at > place)
        for value in values(names_there):
            self.refused(NoName(value), STACK.is_inside, value, "x")
            self.refused(NoName(value), STACK.is_inside, "x", value)
            self.refused(NoName(value), STACK.is_inside, value, "nobody")
            self.refused(NoName("nobody"), STACK.is_inside, "nobody", value)

    def test_equality(self):
        self.only_equal_to_itself(lambda: Stack(X, F, C))
        self.only_equal_to_itself(Stack)
        rows = [(), (X,), (Cell("x", 3),), (Log("x"),), (X, F), (F, X), (X, F, C), (Failure("x"),)]
        for one in rows:
            for other in rows:
                self.assertIs(Stack(*one) == Stack(*other), one == other)
                self.assertIs(Stack(*one) != Stack(*other), one != other)
        self.assertFalse(Stack(X) == [X])
        self.assertFalse(Stack(X) == X)
        self.assertFalse(Stack() == Program())


class FactsTest(LayerCase):
    def test_with_a_choice(self):
        self.same(
            [STACK.names, STACK.shared, STACK.own, STACK.gathering],
            [("x", "l", "f", "choice", "y", "g"), ("l", "x"), ("y",), ("f",)],
        )
        self.same(STACK.pairs, (
            ("choice", "g"), ("choice", "y"), ("f", "choice"), ("f", "y"), ("l", "choice"), ("l", "f"), ("l", "g"),
            ("x", "choice"), ("x", "f"), ("x", "g"), ("y", "g"),
        ))

    def test_without_a_choice(self):
        stack = Stack(X, F, L, G)
        self.same([stack.shared, stack.own, stack.gathering], [(), ("l", "x"), ()])
        self.same(stack.pairs, (("f", "l"), ("l", "g"), ("x", "f"), ("x", "g")))
        self.same([Stack().names, Stack().shared, Stack().own, Stack().gathering, Stack().pairs], [(), (), (), (), ()])

    def test_the_choice_at_the_edges(self):
        outermost, innermost = Stack(C, Y, X, F), Stack(Y, X, G, F, C)
        self.same([outermost.shared, outermost.own, outermost.gathering], [(), ("x", "y"), ()])
        self.same([innermost.shared, innermost.own, innermost.gathering], [("x", "y"), (), ("f", "g")])
        self.same(Stack(C).pairs, ())

    def test_all_orders(self):
        for row in itertools.permutations(ALL[:5]):
            stack = Stack(*row)
            at = row.index(C)
            things = [handler.name for handler in row if kind_of(handler) == "thing"]
            outside = [handler.name for handler in row[:at]]
            self.same(stack.shared, tuple(sorted(name for name in things if name in outside)))
            self.same(stack.own, tuple(sorted(name for name in things if name not in outside)))
            self.same(stack.gathering, ("f",) if "f" in outside else ())
            self.same(stack.pairs, tuple(sorted(
                (one.name, other.name) for one, other in itertools.combinations(row, 2) if kind_of(one) != kind_of(other)
            )))
            place = row.index(F)
            self.same(stack.kept("f"), tuple(sorted(h.name for h in row[:place] if kind_of(h) == "thing")))
            self.same(stack.taken_back("f"), tuple(sorted(h.name for h in row[place:] if kind_of(h) == "thing")))

    def test_taken_back_and_kept(self):
        self.same([STACK.taken_back("f"), STACK.kept("f")], [("y",), ("l", "x")])
        self.same([STACK.taken_back(name="g"), STACK.kept(name="g")], [(), ("l", "x", "y")])
        for value in ["x", "l", "choice", "y", "nobody", *values(lambda value: value in ["f", "g"])]:
            self.refused(NoName(value), STACK.taken_back, value)
            self.refused(NoName(value), STACK.kept, value)


class ChangedTest(LayerCase):
    def setUp(self):
        self.before = str(STACK)

    def tearDown(self):
        self.assertEqual(str(STACK), self.before)
        self.assertEqual(list(STACK), ALL)

    def test_exchanged(self):
        for k in range(5):
            row = ALL[:k] + [ALL[k + 1], ALL[k]] + ALL[k + 2:]
            self.assertEqual(STACK.exchanged(k), Stack(*row))
            self.assertEqual(STACK.exchanged(k=k), Stack(*row))
        for k in [5, 6, -1, True, False, 10 ** 59, *values(lambda value: is_whole(value) and 0 <= value < 5)]:
            self.refused(NoPlace(k), STACK.exchanged, k)
        for stack in [Stack(), Stack(X)]:
            for k in [0, -1, 1]:
                self.refused(NoPlace(k), stack.exchanged, k)

    def test_moved(self):
        for handler in ALL:
            for k in range(6):
                row = [other for other in ALL if other != handler]
                row.insert(k, handler)
                self.assertEqual(STACK.moved(handler.name, k), Stack(*row))
                self.assertEqual(STACK.moved(name=handler.name, k=k), Stack(*row))
        for k in [6, 7, -1, True, *values(lambda value: is_whole(value) and 0 <= value < 6)]:
            self.refused(NoPlace(k), STACK.moved, "x", k)
        for value in values(names_there):
            self.refused(NoName(value), STACK.moved, value, 0)
            self.refused(NoName(value), STACK.moved, value, 9)

    def test_plus(self):
        one, other = Stack(X, F), Stack(C, L)
        self.assertEqual(one + other, Stack(X, F, C, L))
        self.assertEqual(other + one, Stack(C, L, X, F))
        self.assertEqual(one + C, Stack(X, F, C))
        self.assertEqual(C + one, Stack(C, X, F))
        self.assertEqual(Stack() + X, Stack(X))
        self.assertEqual(X + Stack(), Stack(X))
        bound = one
        bound += L
        self.assertEqual([bound, one], [Stack(X, F, L), Stack(X, F)])
        self.assertEqual([list(one), list(other)], [[X, F], [C, L]])
        with self.assertRaises(TypeError):
            X + C

    def test_plus_refuses(self):
        for value in values(lambda value: isinstance(value, (Stack, Handler))):
            self.refused(BadStack("other"), lambda: STACK + value)
            if not isinstance(value, Program):
                self.refused(BadStack("other"), lambda: value + STACK)
        for name, work in [
            ("x", lambda: STACK + X), ("x", lambda: X + STACK), ("choice", lambda: STACK + C), ("f", lambda: STACK + Cell("f")),
            ("f", lambda: STACK + Stack(Cell("z"), F, X)), ("x", lambda: Stack(F, X) + Stack(X, F)),
        ]:
            self.refused(Taken(name), work)
        four = Stack(*[Cell(name) for name in "abcd"])
        self.refused(TooMany("cells", 4), lambda: four + X)
        self.refused(TooMany("cells", 4), lambda: X + four)
        self.refused(Taken("a"), lambda: four + Stack(X, Cell("a")))

    def test_minus_and_parts(self):
        for at, handler in enumerate(ALL):
            self.assertEqual(STACK - handler.name, Stack(*ALL[:at], *ALL[at + 1:]))
            self.assertEqual(STACK // handler.name, Stack(*ALL[:at]))
            self.assertEqual(STACK % handler.name, Stack(*ALL[at + 1:]))
        for value in values(names_there):
            self.refused(NoName(value), lambda: STACK - value)
            self.refused(NoName(value), lambda: STACK // value)
            self.refused(NoName(value), lambda: STACK % value)
        self.refused(NoName("x"), lambda: Stack() - "x")

    def test_in_place(self):
        minus = outside = inside = STACK
        minus -= "f"
        outside //= "f"
        inside %= "f"
        self.assertEqual([minus, outside, inside], [Stack(X, L, C, Y, G), Stack(X, L), Stack(C, Y, G)])
        with self.assertRaises(NoName):
            minus -= "f"
        self.assertEqual(minus, Stack(X, L, C, Y, G))

    def test_turned_about(self):
        self.assertEqual(~STACK, Stack(*ALL[::-1]))
        self.assertEqual([~Stack(), ~Stack(X), ~~STACK], [Stack(), Stack(X), STACK])

    def test_at_most(self):
        for row in itertools.permutations([X, L, F, C]):
            for size in range(5):
                for part in itertools.permutations([X, L, F, C], size):
                    kept = all(
                        row.index(one) < row.index(other)
                        for one, other in itertools.combinations(part, 2) if kind_of(one) != kind_of(other)
                    )
                    self.assertIs(Stack(*part) <= Stack(*row), kept)
        for one, other, fits in [
            (Stack(X), Stack(), False), (Stack(), Stack(), True), (Stack(X), Stack(Cell("x", 3)), False),
            (Stack(F), Stack(Log("f")), False), (Stack(X, Y), Stack(L), False), (Stack(F, G), Stack(G, F), True),
            (Stack(X, L), Stack(L, F, X), True), (Stack(X, F), Stack(X, F, C), True), (Stack(X, F, C), Stack(X, F), False),
        ]:
            self.assertIs(one <= other, fits)
        for value in values(lambda value: isinstance(value, Stack)):
            self.refused(BadStack("other"), lambda: STACK <= value)

    def test_renamed(self):
        self.assertEqual(str(STACK.renamed({"x": "z", "f": "h"})), "cell z 2, log l, failure h, choice, cell y 3, failure g")
        self.assertEqual(str(STACK.renamed(names={"l": "m"})), "cell x 2, log m, failure f, choice, cell y 3, failure g")
        self.assertEqual(str(STACK.renamed({"x": "y", "y": "x"})), "cell y 2, log l, failure f, choice, cell x 3, failure g")
        self.assertEqual(STACK.renamed({}), STACK)
        self.assertEqual(STACK.renamed({"x": "x"}), STACK)
        self.assertEqual(Stack().renamed({}), Stack())

    def test_renamed_refuses(self):
        wrong = [
            {"x": 1}, {1: "x"}, {"x": None}, {"x": "if"}, {"choice": "x"}, {"x": "choice"}, {"x": "z", "q": 5}, [("x", "z")],
            {"x": ["z"]}, {("x",): "z"}, {"": "z"},
        ]

        def fits(value):
            return isinstance(value, dict) and all(is_name(word) for pair in value.items() for word in pair)

        for value in [*wrong, *values(fits)]:
            self.refused(BadStack("names"), STACK.renamed, value)
        self.refused(NoName("a"), STACK.renamed, {"q": "z", "x": "y", "a": "b", "aa": "b"})
        self.refused(NoName("x"), Stack().renamed, {"x": "y"})
        self.refused(NoName("z"), Stack(C).renamed, {"z": "y"})
        self.refused(Taken("y"), STACK.renamed, {"x": "y"})
        self.refused(Taken("x"), STACK.renamed, {"y": "x", "g": "x"})
        self.refused(Taken("z"), STACK.renamed, {"l": "z", "f": "z"})
        self.refused(NoName("q"), STACK.renamed, {"x": "y", "q": "y"})


class TakesTest(LayerCase):
    def fits(self, stack, text, name=None):
        program = Program.read(text)
        self.assertIs(stack.takes(program), name is None)
        self.assertIs(stack.takes(program=program), name is None)
        if name is None:
            self.assertIsNone(stack.check(program))
        else:
            self.refused(Unfit(name), stack.check, program)
            self.refused(Unfit(name), stack.check, program=program)

    def test_what_fits(self):
        for text in [
            "skip", "none", "stop", "put x 1", "put y 2", "copy x y", "copy y x", "say l x", "say l choice", "fail f", "fail g",
            "if y = 2 ( put x 0 ) else ( skip )", "choose ( skip ) or ( skip )", "catch g ( fail f ) else ( none )",
        ]:
            self.fits(STACK, text)
        self.fits(Stack(), "skip")
        self.fits(Stack(), "none ; stop")

    def test_what_does_not_fit(self):
        for text, name in [
            ("put a 1", "a"), ("say a w", "a"), ("fail a", "a"), ("put f 1", "f"), ("put l 1", "l"), ("say x w", "x"),
            ("say f w", "f"), ("fail x", "x"), ("fail l", "l"), ("catch x ( skip ) else ( skip )", "x"), ("copy x a", "a"),
            ("copy a x", "a"), ("if a = 1 ( skip ) else ( skip )", "a"), ("put x 2", "x"), ("put x 3", "x"), ("put y 3", "y"),
            ("if x = 2 ( skip ) else ( skip )", "x"), ("put x 1 ; say x w", "x"), ("put x 1 ; fail x", "x"),
            ("say l w ; fail l", "l"), ("fail z ; put x 2 ; say m w", "m"), ("fail z ; put x 2", "x"), ("put y 3 ; put x 2", "x"),
            ("choose ( put x 2 ) or ( put y 3 )", "x"), ("choose ( skip ) or ( catch z ( say m w ) else ( skip ) )", "m"),
        ]:
            self.fits(STACK, text, name)

    def test_a_choice_that_lacks(self):
        stack = Stack(X, F)
        self.fits(stack, "choose ( skip ) or ( skip )", "choice")
        self.fits(stack, "catch f ( choose ( skip ) or ( skip ) ) else ( skip )", "choice")
        self.fits(stack, "choose ( fail d ) or ( skip )", "choice")
        self.fits(stack, "choose ( fail b ) or ( skip )", "b")
        self.fits(stack, "choose ( put x 3 ) or ( fail d )", "choice")
        self.fits(stack, "none")
        self.fits(Stack(), "choose ( skip ) or ( skip )", "choice")

    def test_values_that_are_no_programs(self):
        for value in values(lambda value: isinstance(value, Program)):
            self.refused(BadProgram("program"), STACK.check, value)
            self.refused(BadProgram("program"), STACK.takes, value)
        self.refused(BadProgram("program"), Stack().takes, Put("x", 1))


class ReadingTest(LayerCase):
    VOCABULARY = [
        "cell", "log", "failure", "choice", "x", "2", "4", "5", "-", ",", "choice,", "log,", "2,", "f,", "2,,", "-,", "put", "X", "",
    ]
    TEXTS = [
        "-", "choice", "cell x 2", "log l", "failure f", "cell x 2, failure f, choice, log l", "choice, failure f",
        "log m, cell abcdefgh 4, cell y 3, failure g", "failure f, log l",
    ]

    def test_there_and_back(self):
        for text in self.TEXTS:
            self.assertEqual(str(Stack.read(text)), text)
            self.assertEqual(str(Stack.read(text=text)), text)
        for row in itertools.permutations(ALL[:4]):
            self.assertEqual(Stack.read(str(Stack(*row))), Stack(*row))
        self.assertEqual(Stack.read("-"), Stack())
        self.assertEqual(str(STACK), "cell x 2, log l, failure f, choice, cell y 3, failure g")

    def test_each_change(self):
        many = 0
        for text in self.TEXTS:
            for changed in changed_texts(text, self.VOCABULARY):
                fault = stack_fault(changed)
                if fault is not None:
                    self.refused(BadText(0, fault), Stack.read, changed)
                else:
                    many += 1
                    try:
                        self.assertEqual(str(Stack.read(changed)), changed)
                    except Taken as error:
                        self.assertEqual(changed.replace(",", "").split(" ").count(error.name), 2)
        self.assertGreater(many, 50)

    def test_some_indexes(self):
        for text, word in [
            ("", 0), ("- ", 1), ("-,", 0), ("- -", 1), ("choice choice", 1), ("choice,", 1), ("choice, ", 1), ("choice, -", 1),
            ("cell x 2, choice, log", 5), ("cell, x 2", 0), ("cell x, 2", 1), ("cell x 2,, choice", 2), ("cell x 2 , choice", 3),
            ("log l,", 2), ("log l,failure f", 1), (", choice", 0), ("choice,choice", 0), ("log l, put", 2), ("cell x 5, log", 2),
        ]:
            self.refused(BadText(0, word), Stack.read, text)

    def test_what_the_class_refuses(self):
        self.refused(Taken("x"), Stack.read, "cell x 2, log x")
        self.refused(Taken("choice"), Stack.read, "choice, choice")
        self.refused(TooMany("cells", 4), Stack.read, ", ".join(f"cell {name} 2" for name in "abcde"))
        self.refused(TooMany("logs", 2), Stack.read, "log a, log b, log c")
        self.refused(TooMany("failures", 3), Stack.read, "failure a, failure b, failure c, failure d")
        self.refused(BadText(0, 2), Stack.read, "choice, log choice")
        self.refused(BadText(0, 4), Stack.read, "log x, log x log")

    def test_values_that_are_no_texts(self):
        for value in values():
            fault = stack_fault(value)
            if fault is not None:
                self.refused(BadText(0, fault), Stack.read, value)
