"""Programs as rows of deeds."""

from layerseen.errors import BadDeed, BadName, BadNumber, BadProgram, NoPlace, TooMany
from layerseen.names import is_name
from layerseen.programs import Catch, Choose, Copy, Deed, Fail, If, Leave, Program, Put, Say, Stop
from layerseen.stacks import Stack
from tests.support import LayerCase, is_whole, same, values

DEEP = Program(
    Catch("f", Program(Put("x", 1), If("y", 3, Program(Say("l", "a")), Program(Stop(), Fail("g")))), Program(Leave())),
    Copy("z", "w"),
    Choose(Program(), Program(Say("k", "b"))),
)


def nested(depth, inner=None, side=0):
    """A program of this depth."""
    program = Program() if inner is None else Program(inner)
    for turn in range(depth):
        program = Program(Choose(program) if side == 0 else Catch("f", Program(), program))
    return program


def deed_of_depth(depth):
    """A deed that makes a program of this depth."""
    return Choose(nested(depth - 1))


def many(count):
    return Program(*[Put("x", 1)] * count)


class MakingTest(LayerCase):
    def test_what_it_defines_itself(self):
        for name in (
            "__init__ __len__ __iter__ __getitem__ __contains__ __eq__ __str__ __add__ __or__ __mul__ of read walk "
            "deed_at without with_deed renamed least_sizes"
        ).split():
            self.assertIn(name, vars(Program))

    def test_of_a_list_or_tuple(self):
        deeds = [Put("x", 1), Stop()]
        for made in [Program(*deeds), Program.of(deeds), Program.of(tuple(deeds)), Program.of(deeds=deeds)]:
            self.assertEqual(list(made), deeds)
        self.assertEqual(list(Program.of([])), [])
        self.assertEqual(Program.of(()), Program())

    def test_a_list_that_is_changed_afterwards(self):
        deeds = [Put("x", 1), Stop()]
        program = Program.of(deeds)
        deeds.append(Leave())
        deeds[0] = Stop()
        self.assertEqual(program, Program(Put("x", 1), Stop()))
        self.assertEqual(program.size, 2)

    def test_of_other_values(self):
        for value in values(lambda value: isinstance(value, (list, tuple))):
            self.refused(BadProgram("deeds"), Program.of, value)

    def test_what_is_no_deed(self):
        for value in values(lambda value: isinstance(value, Deed)):
            for made in [Program, lambda *deeds: Program.of(list(deeds)), lambda *deeds: Program.of(deeds)]:
                self.refused(BadDeed(0), made, value)
                self.refused(BadDeed(0), made, value, Put("x", 1), value)
                self.refused(BadDeed(2), made, Put("x", 1), Stop(), value, 7)
        self.refused(BadDeed(60), Program, *[Stop()] * 60, None, Stop())
        self.refused(BadDeed(1), Program, deed_of_depth(7), None)
        self.refused(BadDeed(61), Program, *[Stop()] * 61, 5)

    def test_sixty_deeds(self):
        self.assertEqual(many(60).size, 60)
        self.refused(TooMany("deeds", 60), Program, *[Put("x", 1)] * 61)
        self.refused(TooMany("deeds", 60), Program.of, [Put("x", 1)] * 61)
        self.assertEqual(Program(Choose(many(30), many(29))).size, 60)
        self.refused(TooMany("deeds", 60), Program, Choose(many(30), many(30)))
        self.assertEqual(Program(Choose(many(30)), Catch("f", many(10), many(10)), *many(8)).size, 60)
        self.refused(TooMany("deeds", 60), Program, Choose(many(30)), If("x", 0, many(10), many(10)), *many(9))
        self.refused(TooMany("deeds", 60), Program, Choose(Program(Choose(many(29), many(29)))), Stop())

    def test_six_deep(self):
        self.assertEqual([nested(depth).depth for depth in range(7)], list(range(7)))
        self.assertEqual(nested(6, side=1).depth, 6)
        self.refused(TooMany("nested", 6), Program, Choose(nested(6)))
        self.refused(TooMany("nested", 6), Program, Stop(), Catch("f", Program(), nested(6)))
        self.refused(TooMany("nested", 6), Program.of, [If("x", 1, nested(6))])

    def test_deeds_ahead_of_nested(self):
        self.refused(TooMany("deeds", 60), Program, *[Stop()] * 54, deed_of_depth(7))
        self.refused(TooMany("nested", 6), Program, *[Stop()] * 53, deed_of_depth(7))


class RowTest(LayerCase):
    def test_length_and_truth(self):
        self.assertEqual([len(Program()), len(Program(Stop())), len(DEEP)], [0, 1, 3])
        self.assertEqual([bool(Program()), bool(Program(Stop())), bool(DEEP)], [False, True, True])

    def test_iteration_and_items(self):
        deeds = [Put("x", 1), Choose(Program(Stop())), Leave(), Fail("f")]
        program = Program(*deeds)
        self.assertEqual(list(program), deeds)
        self.assertEqual([deed for deed in program], deeds)
        for k in range(-4, 4):
            self.assertEqual(program[k], deeds[k])
        for k in [4, 5, -5, -6, 10 ** 30, -(10 ** 30)]:
            with self.assertRaises(IndexError):
                program[k]
        with self.assertRaises(IndexError):
            Program()[0]

    def test_slices(self):
        deeds = (Put("x", 1), Choose(Program(Stop())), Leave(), Fail("f"), Stop())
        program = Program(*deeds)
        bounds = [None, 0, 1, 3, 5, 6, 100, -1, -2, -5, -6, 10 ** 30, -(10 ** 30)]
        for start in bounds:
            for end in bounds:
                self.assertEqual(program[start:end], Program(*deeds[start:end]))
                for step in [None, 1, 2, 3, -1, -2, 10 ** 30]:
                    found = program[start:end:step]
                    self.assertIs(type(found), Program)
                    self.assertEqual(tuple(found), deeds[start:end:step])

    def test_contains_at_any_depth(self):
        for deed in [
            *DEEP, Put("x", 1), DEEP[0].block[1], Say("l", "a"), Stop(), Fail("g"), Leave(), Say("k", "b"),
            Put(cell="x", value=1),
        ]:
            self.assertIs(deed in DEEP, True)
        for value in values(lambda value: isinstance(value, Deed)):
            self.assertIs(value in DEEP, False)
        for deed in [Put("x", 2), Say("l", "b"), Fail("f"), Copy("w", "z"), Choose(Program()), Catch("f", Program())]:
            self.assertIs(deed in DEEP, False)
        self.assertIs(Stop() in Program(), False)
        self.assertIs(Program() in Program(Choose(Program())), False)
        self.assertIs(DEEP in DEEP, False)
        self.assertIs(Stop() in nested(6, Stop()), True)
        self.assertIs(Stop() in nested(6, Stop(), 1), True)
        self.assertIs(Leave() in nested(6, Stop()), False)

    def test_equality(self):
        self.only_equal_to_itself(lambda: Program(Put("x", 1), Choose(Program(Stop()))))
        self.only_equal_to_itself(Program)
        rows = [
            (), (Stop(),), (Leave(),), (Stop(), Leave()), (Leave(), Stop()), (Stop(), Stop()), (Choose(Program()),),
            (Choose(Program(Stop())),), (Choose(Program(), Program(Stop())),),
        ]
        for one in rows:
            for other in rows:
                self.assertIs(Program(*one) == Program(*other), one == other)
                self.assertIs(Program(*one) != Program(*other), one != other)
        self.assertFalse(Program(Stop()) == [Stop()])
        self.assertFalse(Program(Stop()) == Stop())
        self.assertFalse(Program() == ())
        self.assertFalse(Program() == Stack())


class FactsTest(LayerCase):
    def test_of_a_program_with_all(self):
        self.assertEqual([DEEP.size, DEEP.depth, DEEP.chooses], [10, 2, True])
        self.same([DEEP.cells, DEEP.logs, DEEP.failures], [("w", "x", "y", "z"), ("k", "l"), ("f", "g")])
        self.assertEqual(DEEP.least_sizes(), {"w": 2, "x": 2, "y": 4, "z": 2})

    def test_of_skip(self):
        empty = Program()
        self.same([empty.size, empty.depth, empty.cells, empty.logs, empty.failures], [0, 0, (), (), ()])
        self.same([empty.chooses, empty.least_sizes()], [False, {}])

    def test_names_stand_once_and_ascend(self):
        program = Program.read("put b 1 ; copy a b ; put a 0 ; say z a ; say y a ; fail q ; catch p ( skip ) else ( fail q )")
        self.same([program.cells, program.logs, program.failures], [("a", "b"), ("y", "z"), ("p", "q")])

    def test_each_deed_names_its_handlers(self):
        for text, cells, logs, failures in [
            ("put a 1", ("a",), (), ()), ("copy b a", ("a", "b"), (), ()), ("copy a a", ("a",), (), ()),
            ("say a b", (), ("a",), ()), ("fail a", (), (), ("a",)), ("none", (), (), ()), ("stop", (), (), ()),
            ("if a = 1 ( put b 1 ) else ( say c d )", ("a", "b"), ("c",), ()),
            ("catch a ( fail b ) else ( put c 1 )", ("c",), (), ("a", "b")),
            ("choose ( put a 1 ) or ( say b b )", ("a",), ("b",), ()),
            ("put a 1 ; say a a ; fail a", ("a",), ("a",), ("a",)),
        ]:
            program = Program.read(text)
            self.same([program.cells, program.logs, program.failures], [cells, logs, failures])

    def test_chooses_at_any_depth(self):
        for text, chooses in [
            ("stop", False), ("choose ( skip ) or ( skip )", True), ("if a = 1 ( stop ) else ( stop )", False),
            ("if a = 1 ( choose ( skip ) or ( skip ) ) else ( stop )", True), ("say a choose", False),
            ("catch a ( skip ) else ( stop ; choose ( skip ) or ( skip ) )", True), ("stop ; none", False),
            ("catch a ( skip ) else ( if x = 1 ( skip ) else ( choose ( skip ) or ( skip ) ) ) ; stop", True),
        ]:
            self.assertIs(Program.read(text).chooses, chooses)

    def test_depth_of_block_and_other(self):
        for text, depth, size in [
            ("stop", 0, 1), ("choose ( skip ) or ( skip ) ; stop", 1, 2),
            ("choose ( stop ) or ( choose ( stop ) or ( skip ) )", 2, 4),
            ("choose ( choose ( skip ) or ( skip ) ) or ( stop ; stop )", 2, 4),
            ("stop ; if a = 1 ( stop ) else ( stop ) ; catch f ( choose ( skip ) or ( skip ) ) else ( skip )", 2, 6),
        ]:
            self.same([Program.read(text).depth, Program.read(text).size], [depth, size])

    def test_least_sizes(self):
        for text, sizes in [
            ("put a 0", {"a": 2}), ("put a 1", {"a": 2}), ("put a 2", {"a": 3}), ("put a 3", {"a": 4}),
            ("put a 3 ; put a 0", {"a": 4}), ("if a = 2 ( put a 1 ) else ( skip )", {"a": 3}),
            ("if a = 2 ( put a 3 ) else ( skip )", {"a": 4}), ("copy a b ; put b 3", {"a": 2, "b": 4}),
            ("choose ( put a 2 ) or ( if b = 3 ( skip ) else ( put a 3 ) ) ; say c a", {"a": 4, "b": 4}),
        ]:
            self.assertEqual(Program.read(text).least_sizes(), sizes)

    def test_least_sizes_are_new(self):
        program = Program(Put("x", 1))
        found = program.least_sizes()
        found["x"] = 9
        found["y"] = 9
        self.assertEqual(program.least_sizes(), {"x": 2})


class SignsTest(LayerCase):
    def test_plus(self):
        one, other = Program(Put("x", 1), Stop()), Program(Leave(), Choose(Program()))
        for right, deeds in [
            (other, [*one, *other]), (Program(), list(one)), (Fail("f"), [*one, Fail("f")]), (one, [*one, *one]),
            (deed_of_depth(6), [*one, deed_of_depth(6)]),
        ]:
            self.assertEqual(one + right, Program(*deeds))
            bound = one
            bound += right
            self.assertEqual(bound, Program(*deeds))
        self.assertEqual(one, Program(Put("x", 1), Stop()))
        self.assertEqual(Program() + Stop(), Program(Stop()))

    def test_plus_refuses(self):
        self.assertEqual((many(59) + Stop()).size, 60)
        self.assertEqual((many(20) + many(40)).size, 60)
        self.refused(TooMany("deeds", 60), lambda: many(60) + Stop())
        self.refused(TooMany("deeds", 60), lambda: many(21) + many(40))
        self.refused(TooMany("deeds", 60), lambda: many(30) + Choose(many(30)))
        self.refused(TooMany("nested", 6), lambda: many(53) + deed_of_depth(7))
        self.refused(TooMany("deeds", 60), lambda: many(54) + deed_of_depth(7))

    def test_or(self):
        one, other = Program(Put("x", 1), Stop()), Program(Leave(), Choose(Program()))
        for right, block in [(other, other), (Program(), Program()), (Fail("f"), Program(Fail("f")))]:
            self.assertEqual(one | right, Program(Choose(one, block)))
            bound = one
            bound |= right
            self.assertEqual(bound, Program(Choose(one, block)))
        self.assertEqual(one, Program(Put("x", 1), Stop()))

    def test_or_refuses(self):
        self.assertEqual((many(30) | many(29)).size, 60)
        self.refused(TooMany("deeds", 60), lambda: many(30) | many(30))
        self.refused(TooMany("deeds", 60), lambda: many(59) | Stop())
        self.assertEqual((nested(5) | nested(5)).depth, 6)
        self.refused(TooMany("nested", 6), lambda: nested(6) | Stop())
        self.refused(TooMany("nested", 6), lambda: Program() | nested(6))
        self.refused(TooMany("nested", 6), lambda: Program() | deed_of_depth(6))
        self.refused(TooMany("nested", 6), lambda: Program() | deed_of_depth(7))

    def test_times(self):
        one = Program(Put("x", 1), Stop())
        for count in range(31):
            self.assertEqual(one * count, Program(*[*one] * count))
        for count in [31, 32, 60, 61, 62, 10 ** 59]:
            self.refused(TooMany("deeds", 60), lambda: one * count)
        self.assertEqual((Program(Stop()) * 60).size, 60)
        for count in [61, 62, 10 ** 59]:
            self.refused(TooMany("deeds", 60), lambda: Program(Stop()) * count)
        for count in [0, 1, 7, 60, 61, 10 ** 59]:
            self.assertEqual(Program() * count, Program())
        self.assertEqual(many(60) * 0, Program())
        self.assertEqual(many(60) * 1, many(60))
        self.refused(TooMany("deeds", 60), lambda: many(60) * 2)
        self.assertEqual((nested(6) * 8).size, 48)
        bound = one
        bound *= 2
        self.assertEqual([bound, one], [Program(*one, *one), Program(Put("x", 1), Stop())])

    def test_values_of_other_kinds_on_the_right(self):
        one = many(60)
        for value in values(lambda value: isinstance(value, (Program, Deed))):
            self.refused(BadProgram("other"), lambda: one + value)
            self.refused(BadProgram("other"), lambda: one | value)
        for value in values(lambda value: is_whole(value) and value >= 0):
            self.refused(BadNumber(value), lambda: one * value)
        bound = one
        for value in [None, [Stop()], True, -1]:
            with self.assertRaises(BadProgram):
                bound += value
            with self.assertRaises(BadProgram):
                bound |= value
            with self.assertRaises(BadNumber):
                bound *= value
        self.assertIs(bound, one)


class PathsTest(LayerCase):
    PATHS = [
        (0,), (0, 0, 0), (0, 0, 1), (0, 0, 1, 0, 0), (0, 0, 1, 1, 0), (0, 0, 1, 1, 1), (0, 1, 0), (1,), (2,), (2, 1, 0),
    ]
    DEEDS = [
        DEEP[0], Put("x", 1), DEEP[0].block[1], Say("l", "a"), Stop(), Fail("g"), Leave(), Copy("z", "w"), DEEP[2],
        Say("k", "b"),
    ]

    def test_walk(self):
        self.same(list(DEEP.walk()), self.PATHS)
        self.assertEqual(sorted(self.PATHS), self.PATHS)
        self.assertEqual(list(Program().walk()), [])
        self.same(list(many(3).walk()), [(0,), (1,), (2,)])
        self.assertEqual(next(DEEP.walk()), (0,))
        self.assertEqual(len(list(nested(6, Stop()).walk())), 7)

    def test_deed_at(self):
        for path, deed in zip(self.PATHS, self.DEEDS):
            self.assertEqual(DEEP.deed_at(path), deed)
            self.assertEqual(DEEP.deed_at(path=path), deed)
        self.assertEqual(nested(6, Stop()).deed_at((0, 0) * 6 + (0,)), Stop())

    def test_without(self):
        for path, text in [
            ((0,), "copy z w ; choose ( skip ) or ( say k b )"),
            ((0, 0, 0), "catch f ( if y = 3 ( say l a ) else ( stop ; fail g ) ) else ( none ) ; copy z w ; "
                        "choose ( skip ) or ( say k b )"),
            ((0, 0, 1), "catch f ( put x 1 ) else ( none ) ; copy z w ; choose ( skip ) or ( say k b )"),
            ((0, 0, 1, 1, 0), "catch f ( put x 1 ; if y = 3 ( say l a ) else ( fail g ) ) else ( none ) ; copy z w ; "
                              "choose ( skip ) or ( say k b )"),
            ((0, 1, 0), "catch f ( put x 1 ; if y = 3 ( say l a ) else ( stop ; fail g ) ) else ( skip ) ; copy z w ; "
                        "choose ( skip ) or ( say k b )"),
            ((2, 1, 0), "catch f ( put x 1 ; if y = 3 ( say l a ) else ( stop ; fail g ) ) else ( none ) ; copy z w ; "
                        "choose ( skip ) or ( skip )"),
        ]:
            before = str(DEEP)
            self.assertEqual(str(DEEP.without(path)), text)
            self.assertEqual(DEEP.without(path=path), Program.read(text))
            self.assertEqual(str(DEEP), before)
        self.assertEqual(Program(Stop()).without((0,)), Program())

    def test_with_deed(self):
        for path, deed in zip(self.PATHS, self.DEEDS):
            self.assertEqual(DEEP.with_deed(path, deed), DEEP)
            before = str(DEEP)
            changed = DEEP.with_deed(path=path, deed=Put("new", 2))
            self.assertEqual(changed.deed_at(path), Put("new", 2))
            self.assertEqual(changed.with_deed(path, deed), DEEP)
            self.assertIn("new", changed.cells)
            self.assertEqual(str(DEEP), before)
        self.assertEqual(
            str(DEEP.with_deed((0, 0, 1, 1, 0), Choose(Program(Stop())))),
            "catch f ( put x 1 ; if y = 3 ( say l a ) else ( choose ( stop ) or ( skip ) ; fail g ) ) else ( none ) ; "
            "copy z w ; choose ( skip ) or ( say k b )",
        )

    def test_every_path_near_the_paths(self):
        near = {()}
        steps = [-1, 0, 1, 2, 3]
        rows = [()]
        for length in range(1, 6):
            rows = [row + (step,) for row in rows for step in steps]
            near.update(rows)
        near.update(path + tail for path in self.PATHS for tail in [(0, 0), (0,), (1, 0), (2, 0), (0, 0, 0)])
        for path in near:
            if path not in self.PATHS:
                for work in [DEEP.deed_at, DEEP.without, lambda path: DEEP.with_deed(path, Stop())]:
                    self.refused(NoPlace(path), work, path)

    def test_values_that_are_no_paths(self):
        wrong = [
            [0], [0, 0, 0], (True,), (False,), (0, False, 0), (0, 0, True), (False, 0, 0), ("0",), (None,), (0, None, 0),
            (0, 0, None), ((0,),), (0, "0", 0), 0, "0", (10 ** 59,), (-(10 ** 59),), (0, 0, 10 ** 59), range(1), {0: 0},
            (0, [0], 0), (Put("x", 1),), ({},),
        ]
        for path in [*wrong, *values(lambda value: same(value, (0,)))]:
            for work in [DEEP.deed_at, DEEP.without]:
                self.refused(NoPlace(path), work, path)
            for deed in [Stop(), None, 5]:
                self.refused(NoPlace(path), DEEP.with_deed, path, deed)
            self.refused(NoPlace(path), Program().deed_at, path)

    def test_a_deed_that_is_none(self):
        for value in values(lambda value: isinstance(value, Deed)):
            for path in self.PATHS:
                self.refused(BadDeed(None), DEEP.with_deed, path, value)

    def test_with_deed_refuses_as_program(self):
        full = Program(Choose(many(29), many(30)))
        for path in [(0, 0, 0), (0, 1, 0)]:
            self.assertEqual(full.with_deed(path, Leave()).size, 60)
            self.refused(TooMany("deeds", 60), full.with_deed, path, Choose(Program(Stop())))
        self.refused(TooMany("deeds", 60), many(60).with_deed, (5,), Choose(Program(Stop())))
        self.assertEqual(nested(6, Stop()).with_deed((0, 0) * 6 + (0,), Leave()).depth, 6)
        self.refused(TooMany("nested", 6), nested(6, Stop()).with_deed, (0, 0) * 6 + (0,), Choose(Program()))
        self.refused(TooMany("nested", 6), nested(3, Stop()).with_deed, (0, 0) * 3 + (0,), deed_of_depth(4))
        self.refused(TooMany("nested", 6), many(3).with_deed, (1,), deed_of_depth(7))

    def test_with_deed_tells_of_the_innermost_block_first(self):
        # The block with the new deed is too deep, the whole program has too many deeds, too.
        crowded = Program(Choose(Program(Stop())), *many(58))
        self.refused(TooMany("nested", 6), crowded.with_deed, (0, 0, 0), deed_of_depth(7))
        # The block alone is deep enough for it; then the whole is told, its deeds first.
        self.refused(TooMany("deeds", 60), crowded.with_deed, (0, 0, 0), deed_of_depth(6))


class RenamedTest(LayerCase):
    def test_all_places_of_names(self):
        names = {name: name + name for name in "wxyzklfg"}
        self.assertEqual(
            str(DEEP.renamed(names)),
            "catch ff ( put xx 1 ; if yy = 3 ( say ll a ) else ( stop ; fail gg ) ) else ( none ) ; copy zz ww ; "
            "choose ( skip ) or ( say kk b )",
        )
        self.assertEqual(DEEP.renamed({}), DEEP)
        self.assertEqual(DEEP.renamed(names={"x": "q"}).cells, ("q", "w", "y", "z"))

    def test_words_that_are_said_stay(self):
        self.assertEqual(Program.read("say a a").renamed({"a": "b"}), Program.read("say b a"))

    def test_exchanged_names(self):
        program = Program.read("put a 1 ; copy b a ; fail c")
        self.assertEqual(str(program.renamed({"a": "b", "b": "a"})), "put b 1 ; copy a b ; fail c")
        self.assertEqual(str(program.renamed({"a": "b", "b": "c", "c": "a"})), "put b 1 ; copy c b ; fail a")
        self.assertEqual(str(program), "put a 1 ; copy b a ; fail c")

    def test_names_that_are_not_there(self):
        program = Program.read("put a 1")
        self.assertEqual(program.renamed({"b": "a", "c": "a"}), program)
        self.assertEqual(str(program.renamed({"b": "a", "a": "c"})), "put c 1")
        self.assertEqual(Program().renamed({"b": "a", "c": "a"}), Program())

    def test_one_word_is_one_name(self):
        program = Program.read("put a 1 ; say a w ; fail a")
        self.assertEqual(str(program.renamed({"a": "b"})), "put b 1 ; say b w ; fail b")

    def test_two_unlike_names_that_become_one(self):
        for text, names in [
            ("copy a b", {"a": "b"}), ("copy a b", {"b": "a"}), ("copy a b", {"a": "c", "b": "c"}),
            ("put a 1 ; fail b", {"a": "b"}), ("say a w ; fail b", {"a": "b", "c": "d"}),
            ("choose ( put a 1 ) or ( fail b )", {"a": "b"}),
            ("catch c ( if a = 1 ( skip ) else ( skip ) ) else ( say b w )", {"a": "d", "b": "d"}),
        ]:
            self.refused(BadProgram("names"), Program.read(text).renamed, names)

    def test_values_that_are_no_such_dicts(self):
        wrong = [
            {"a": 1}, {1: "a"}, {"a": None}, {"a": "if"}, {"if": "a"}, {"a": "b", "c": "x1"}, {"": "a"}, {("a",): "b"},
            {"choice": "b"}, [("a", "b")], (("a", "b"),), {"a": ["b"]},
        ]

        def fits(value):
            return isinstance(value, dict) and all(is_name(word) for pair in value.items() for word in pair)

        for value in [*wrong, *values(fits)]:
            self.refused(BadProgram("names"), DEEP.renamed, value)
            self.refused(BadProgram("names"), Program().renamed, value)

    def test_a_dict_that_is_changed_afterwards(self):
        names = {"a": "b"}
        program = Program.read("put a 1 ; choose ( put a 1 ) or ( skip )").renamed(names)
        names["a"] = "c"
        self.assertEqual(str(program), "put b 1 ; choose ( put b 1 ) or ( skip )")
        self.assertEqual(names, {"a": "c"})

    def test_errors_are_layer_errors_with_the_passed_value(self):
        self.refused(BadName("if"), Put, "if", 9)
