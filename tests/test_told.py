"""Classes told back from what was seen."""

import itertools
import random

from layerseen.classes import classes, many_classes, normal
from layerseen.compared import parting_of
from layerseen.ends import End
from layerseen.errors import BadName, BadProgram, BadSample, BadStack, TooMany, Unfit
from layerseen.handlers import Cell, Choice, Failure, Log
from layerseen.player import ends
from layerseen.programs import Leave, Program, Put
from layerseen.stacks import Stack
from layerseen.told import Sample, Told, fewest, fitting, parts, shows_told, sure, told_back
from layerseen.values import same as strictly_same
from tests.support import LayerCase, orders, values
from tests.test_player_orders import random_program
from tests.test_talks import both, says

X, Y, L, F, G, C = Cell("x"), Cell("y", 3), Log("l"), Failure("f"), Failure("g"), Choice()
THREE = Stack(X, C, F)
WIDE = Stack(X, Y, L, F, G, C)
# 1,902 classes: more than may be.
GREAT = Stack(X, Y, L, F, G, Failure("h"), C)
SHORT = Program.read("choose ( put x 1 ; fail f ) or ( skip )")
POOL = [Program.read(text) for text in [
    "skip", "put x 1 ; fail f", "say l a ; fail f", "choose ( put x 1 ) or ( skip )", "choose ( say l a ) or ( skip )",
    "choose ( skip ) or ( fail f )", "choose ( put x 1 ; fail f ) or ( skip )", "put x 1", "choose ( say l a ; fail f ) or ( say l b )",
    "catch f ( put x 1 ; fail f ) else ( say l a )", "none", "catch f ( choose ( put x 1 ) or ( say l a ) ) else ( skip )",
]]


def rows_of(stack):
    """The normal stacks in order, by going through all orders."""
    found = {normal(row).names: normal(row) for row in orders(*stack)}
    return [found[names] for names in sorted(found)]


def groups_of(stack, programs):
    """The groups of indexes that show the same, by comparing all with all."""
    told = [[ends(program, row) for program in programs] for row in rows_of(stack)]
    found = []
    for index, one in enumerate(told):
        for group in found:
            if told[group[0]] == one:
                group.append(index)
                break
        else:
            found.append([index])
    return tuple(tuple(group) for group in found)


class SampleTest(LayerCase):
    def test_what_it_defines_itself(self):
        for name in "__init__ __eq__ fits of".split():
            self.assertIn(name, vars(Sample))
        self.assertIs(type(vars(Sample)["of"]), classmethod)

    def test_of_lists_and_tuples(self):
        row = ends(SHORT, THREE)
        for given in [row, list(row)]:
            for sample in [Sample(SHORT, given), Sample(program=SHORT, ends=given)]:
                self.same([sample.program, sample.ends], [SHORT, row])
                self.assertTrue(sample)
        self.same(Sample(Program(), []).ends, ())

    def test_wrong_values_in_order(self):
        end = End(None, {}, {})
        for value in values(lambda value: isinstance(value, Program)):
            self.refused(BadProgram("program"), Sample, value, None)
            self.refused(BadProgram("program"), Sample, value, [end])
        for value in values(lambda value: isinstance(value, (list, tuple))):
            self.refused(BadSample(None), Sample, SHORT, value)
        for value in values(lambda value: isinstance(value, End)):
            self.refused(BadSample(0), Sample, SHORT, [value, value])
            self.refused(BadSample(2), Sample, SHORT, (end, end, value, end))

    def test_what_is_done_to_an_argument_afterwards_changes_nothing(self):
        row = list(ends(SHORT, THREE))
        sample = Sample(SHORT, row)
        row[0].cells["x"] = 7
        row.append(row[0])
        row[1] = None
        self.same(sample.ends, ends(SHORT, THREE))
        self.assertIs(sample.fits(THREE), True)
        told = Told(THREE, (sample,))
        sample.ends[0].cells["x"] = 7
        self.assertIs(sample.fits(THREE), False)
        self.assertIs(told.samples[0].fits(THREE), True)

    def test_fits(self):
        for stack in orders(X, F, C):
            sample = Sample(SHORT, ends(SHORT, stack))
            for other in orders(X, F, C):
                self.assertIs(sample.fits(other), ends(SHORT, other) == ends(SHORT, stack))
                self.assertIs(sample.fits(stack=other), ends(SHORT, other) == ends(SHORT, stack))

    def test_fits_by_kinds(self):
        program, stack = Program.read("put x 1 ; say l a"), Stack(X, L)
        logs = {"l": ("a",)}
        for end, fits in [
            (End(None, {"x": 1}, logs), True), (End(None, {"x": True}, logs), False), (End(None, {"x": 1}, {"l": ["a"]}), False),
            (End(False, {"x": 1}, logs), False), (End(None, {"x": 1, "y": 0}, logs), False), (End(None, {"x": "1"}, logs), False),
            (End(None, None, None), False), (End(None, {"x": 1}, {}), False),
        ]:
            self.assertIs(Sample(program, [end]).fits(stack), fits)
        self.assertIs(Sample(program, []).fits(stack), False)
        self.assertIs(Sample(program, [End(None, {"x": 1}, logs)] * 2).fits(stack), False)

    def test_kinds_of_samples(self):
        one, other = [Sample(SHORT, [End(None, {"x": value}, {})]) for value in (1, True)]
        self.assertEqual([strictly_same(one, Sample(SHORT, one.ends)), strictly_same(one, other)], [True, False])

    def test_errors_of_fits_and_of(self):
        sample = Sample(Program.read("put x 2"), [])
        for value in values(lambda value: isinstance(value, Stack)):
            self.refused(BadStack("stack"), sample.fits, value)
            self.refused(BadStack("stack"), Sample.of, SHORT, value)
        self.refused(Unfit("x"), sample.fits, THREE)
        self.refused(Unfit("x"), Sample.of, Program.read("put x 2"), THREE)
        self.refused(TooMany("ends", 64), Sample(both(7), []).fits, THREE)
        self.refused(TooMany("ends", 64), Sample.of, both(7), THREE)
        for value in values(lambda value: isinstance(value, Program)):
            self.refused(BadProgram("program"), Sample.of, value, None)

    def test_of(self):
        for stack in orders(X, F, C):
            for sample in [Sample.of(SHORT, stack), Sample.of(program=SHORT, stack=stack)]:
                self.assertEqual(sample, Sample(SHORT, ends(SHORT, stack)))

    def test_equality(self):
        self.only_equal_to_itself(lambda: Sample(SHORT, ends(SHORT, THREE)))
        one = Sample(SHORT, ends(SHORT, THREE))
        self.assertFalse(one == Sample(SHORT, ()))
        self.assertFalse(one == Sample(Program(), ends(SHORT, THREE)))
        self.assertEqual(Sample(SHORT, []), Sample(SHORT, ()))


class FittingTest(LayerCase):
    def test_against_all_classes(self):
        dice = random.Random(61)
        for handlers in [[], [X], [X, F], [X, L, F], [X, F, C], [X, L, F, C]]:
            stack = Stack(*handlers)
            rows = rows_of(stack)
            pool = [program for program in POOL if stack.takes(program)]
            for turn in range(30):
                under = [dice.choice(rows)] * 3 if turn % 3 else dice.choices(rows, k=3)
                samples = [Sample.of(dice.choice(pool), row) for row in under[:dice.randrange(4)]]
                expected = [row for row in rows if all(ends(sample.program, row) == sample.ends for sample in samples)]
                self.assertEqual(list(fitting(stack, *samples)), expected)
                self.assertEqual(list(fitting(~stack, *samples)), expected)
                pairs = sorted(
                    (outer, inner) for outer, inner in itertools.permutations(stack.names, 2)
                    if stack.handler(outer).meets(stack.handler(inner)) and all(row.is_inside(inner, outer) for row in expected)
                )
                self.same(sure(stack, *samples), tuple(pairs) if expected else None)

    def test_by_name_and_one_after_another(self):
        told = fitting(stack=THREE)
        self.assertEqual([next(told), next(told)], rows_of(THREE)[:2])
        self.same([sure(stack=THREE), sure(Stack(X)), sure(Stack())], [(), (), ()])
        self.same(sure(Stack(X, F), Sample(Program(), [])), None)
        self.same(list(fitting(Stack(X, F), Sample(Program(), []))), [])
        self.same(sure(Stack(X, F), Sample.of(POOL[1], Stack(F, X))), (("f", "x"),))


class PartsTest(LayerCase):
    def test_against_all_classes(self):
        dice = random.Random(62)
        for handlers in [[], [X], [X, F], [X, L, F], [X, F, C], [X, L, F, C]]:
            stack = Stack(*handlers)
            pool = [program for program in POOL if stack.takes(program)]
            for turn in range(12):
                programs = [dice.choice(pool) for turn in range(dice.randrange(5))]
                self.same(parts(stack, *programs), groups_of(stack, programs))
                self.same(parts(~stack, *programs), groups_of(stack, programs))

    def test_without_programs(self):
        self.same([parts(Stack()), parts(stack=THREE), parts(THREE, Program())], [((0,),), ((0, 1, 2, 3, 4, 5),), ((0, 1, 2, 3, 4, 5),)])

    def test_fewest_against_all_tuples(self):
        dice = random.Random(63)
        for handlers in [[], [X, F], [X, F, C], [X, L, F], [X, L, F, C]]:
            stack = Stack(*handlers)
            pool = [program for program in POOL if stack.takes(program)]
            for turn in range(15):
                programs = [dice.choice(pool) for turn in range(dice.randrange(7))]
                many = len(groups_of(stack, programs))
                expected = next(
                    some for size in range(len(programs) + 1) for some in itertools.combinations(range(len(programs)), size)
                    if len(groups_of(stack, [programs[at] for at in some])) == many
                )
                self.same(fewest(stack, *programs), expected)

    def test_fewest_by_hand(self):
        self.same([fewest(THREE), fewest(THREE, Program(), Program()), fewest(stack=THREE)], [(), (), ()])
        pairs = [parting_of(X, F), parting_of(X, C), parting_of(F, C)]
        # The program SHORT tells all apart but f choice x and f x choice.
        self.same(fewest(THREE, *pairs), (0, 1, 2))
        self.same(fewest(THREE, *pairs, SHORT), (1, 3))
        self.same(fewest(THREE, SHORT, *pairs), (0, 2))
        self.same(fewest(THREE, *pairs * 4), (0, 1, 2))
        self.same(fewest(THREE, *[Program()] * 9, *pairs), (9, 10, 11))
        self.same(fewest(THREE, pairs[0], SHORT), (1,))


class ErrorsTest(LayerCase):
    WORKS = [
        (lambda stack, *parts: next(fitting(stack, *parts)), True), (sure, True), (parts, False), (fewest, False),
    ]

    def made(self, program, samples):
        return Sample(program, []) if samples else program

    def test_wrong_values_in_order(self):
        for work, samples in self.WORKS:
            bad = BadSample if samples else BadProgram
            for value in values(lambda value: isinstance(value, Stack)):
                self.refused(BadStack("stack"), work, value, None)
                self.refused(BadStack("stack"), work, value)
            self.refused(TooMany("classes", 1000), work, GREAT, None)
            self.refused(TooMany("classes", 1000), work, GREAT)
            good = self.made(Program(), samples)
            for value in values(lambda value: isinstance(value, Sample if samples else Program)):
                self.refused(bad(0), work, THREE, value, None)
                self.refused(bad(2), work, THREE, good, self.made(Program.read("put q 1"), samples), value, value)
            self.refused(bad(0), work, THREE, Program() if samples else Sample(Program(), []))
            self.refused(Unfit("b"), work, THREE, good, self.made(both(7), samples), self.made(Program.read("put c 1 ; put b 1"), samples))
            self.refused(Unfit("c"), work, THREE, self.made(Program.read("put c 1"), samples), self.made(Program.read("put b 1"), samples))
            self.refused(Unfit("choice"), work, Stack(X), self.made(both(7), samples))
            self.refused(TooMany("ends", 64), work, THREE, good, self.made(both(7), samples))

    def test_the_number_of_classes(self):
        rows = rows_of(WIDE)
        self.assertEqual(list(fitting(WIDE)), rows)
        self.assertEqual([len(rows), many_classes(3, 3, True), many_classes(4, 2, True)], [330, 1902, 1374])
        cells = [Cell(name) for name in "abcd"]
        for stack in [GREAT, Stack(*WIDE, Log("m")), Stack(*cells, F, G, Failure("h"))]:
            self.refused(TooMany("classes", 1000), parts, stack)
        self.same(parts(Stack(*cells, L, F, C)), (tuple(range(486)),))

    def test_the_first_program_and_the_first_class_that_raise(self):
        steps = both(8) + Program.read(" ; ".join(["put x 1"] * 20) + " ; none")
        stack = Stack(X, L, C)
        # Only where l is shared so many words come together.
        words = both(3) + says(50) + Leave()
        for work, samples in self.WORKS:
            one, other, third = [self.made(program, samples) for program in (both(7), steps, words)]
            self.refused(TooMany("ends", 64), work, stack, one, other)
            self.refused(TooMany("steps", 4000), work, stack, other, one)
            self.refused(TooMany("words", 200), work, stack, third, one)
            self.refused(TooMany("words", 200), work, Stack(C, L), third)
            self.refused(Unfit("q"), work, stack, one, self.made(Program.read("put q 1"), samples))

    def test_each_sample_is_run_under_each_class(self):
        words = Sample(both(3) + says(50) + Leave(), [])
        nothing = Sample(Program(), [])
        for work in [lambda *row: list(fitting(*row)), sure]:
            self.refused(TooMany("words", 200), work, Stack(L, C), nothing, words)

    def test_too_many_programs(self):
        self.assertEqual(fewest(THREE, *[SHORT] * 12), (0,))
        self.refused(TooMany("programs", 12), fewest, THREE, *[SHORT] * 13)
        self.refused(TooMany("programs", 12), fewest, THREE, *[Program.read("put q 1")] * 13)
        self.refused(BadProgram(13), fewest, THREE, *[SHORT] * 13, None)
        self.assertEqual(len(parts(THREE, *[SHORT] * 13)), 5)


def next_question(rows):
    """The pair to ask for: the counts that the document tells, in another way."""
    pairs = sorted(
        (one.name, other.name) for one, other in itertools.permutations(rows[0], 2) if one.name < other.name and one.meets(other)
    )
    counted = []
    for pair in pairs:
        many = sum(row.is_inside(pair[1], pair[0]) for row in rows)
        if 0 < many < len(rows):
            counted.append((max(many, len(rows) - many), pair))
    return min(counted)[1]


class ToldBackTest(LayerCase):
    def check(self, stack, hidden):
        asked = []

        def ask(program):
            asked.append(program)
            return ends(program, hidden)

        found = told_back(stack, ask)
        rows, questions = rows_of(stack), []
        while len(rows) > 1:
            one, other = next_question(rows)
            questions.append(parting_of(stack.handler(one), stack.handler(other)))
            rows = [row for row in rows if row.is_inside(one, other) == hidden.is_inside(one, other)]
        self.assertEqual(asked, questions)
        self.assertIs(type(found), Told)
        self.assertEqual([found.stack, found.samples], [normal(hidden), tuple(Sample(program, ends(program, hidden)) for program in questions)])
        self.assertIs(shows_told(stack, found), True)

    def test_all_orders_of_few(self):
        for handlers in [[], [X], [X, L], [X, F], [F, C], [X, F, C], [X, L, F], [X, L, F, C], [X, F, G, C], [Cell("d"), Failure("b"), C, L]]:
            stack = Stack(*handlers)
            for hidden in orders(*handlers):
                self.check(stack, hidden)
            self.check(~stack, stack)

    def test_of_more_handlers(self):
        dice = random.Random(64)
        everything = orders(X, Y, L, F, G)
        for turn in range(4):
            self.check(Stack(X, Y, L, F, G), dice.choice(everything))

    def test_with_one_class_ask_is_not_looked_at(self):
        for stack in [Stack(), Stack(X, L), Stack(F, G), Stack(C)]:
            for ask in [None, 5, "ask", ()]:
                self.assertEqual(told_back(stack, ask), Told(normal(stack), ()))
                self.assertEqual(told_back(stack=stack, ask=ask), Told(normal(stack), ()))

    def test_answers_as_lists(self):
        found = told_back(THREE, lambda program: list(ends(program, THREE)))
        self.same([sample.ends for sample in found.samples], [ends(sample.program, THREE) for sample in found.samples])

    def test_answers_that_are_changed_afterwards(self):
        given = []

        def ask(program):
            for row in given:
                row.clear()
            given.append(list(ends(program, THREE)))
            return given[-1]

        self.assertEqual(told_back(THREE, ask), told_back(THREE, lambda program: ends(program, THREE)))

    def test_wrong_answers(self):
        good = End(None, {"x": 1}, {})
        for value in [
            *values(), (good, None), [good, 5], [good], (), [good] * 3, ends(Program(), THREE), {0: good}, "done", (End(None, {"x": True}, {}),),
        ]:
            self.refused(BadSample(0), told_back, THREE, lambda program: value)
            for many in (1, 2):
                left = [True] * many

                def ask(program):
                    return ends(program, Stack(C, F, X)) if left and left.pop() else value

                stack = Stack(X, C, F, L) if many == 2 else THREE
                hidden = Stack(L, C, F, X)
                answer = ask if many == 1 else lambda program: ends(program, hidden) if left and left.pop() else value
                self.refused(BadSample(many), told_back, stack, answer)

    def test_answers_of_other_kinds_that_are_equal(self):
        # True is not 1, so no class gives such ends.
        def bent(program):
            return [End(end.failed, {name: bool(value) for name, value in end.cells.items()}, end.logs) for end in ends(program, THREE)]
        self.refused(BadSample(0), told_back, THREE, bent)

    def test_errors_that_ask_raises_go_on(self):
        for error in [BadName("q"), BadSample(7), TooMany("ends", 64), KeyError("x"), StopIteration(), Unfit("x")]:
            def ask(program):
                raise error
            with self.assertRaises(type(error)) as caught:
                told_back(THREE, ask)
            self.assertIs(caught.exception, error)

    def test_wrong_stacks(self):
        for work in [told_back, shows_told]:
            for value in values(lambda value: isinstance(value, Stack)):
                self.refused(BadStack("stack"), work, value, None)
            self.refused(TooMany("classes", 1000), work, GREAT, None)


class ShowsToldTest(LayerCase):
    def test_papers(self):
        self.is_paper(Told)

    def test_other_samples(self):
        sample = Sample.of(SHORT, Stack(C, F, X))
        for stack in rows_of(THREE):
            paper = Told(stack, (Sample.of(SHORT, stack),))
            self.assertIs(shows_told(THREE, paper), list(fitting(THREE, *paper.samples)) == [stack])
            self.assertIs(shows_told(stack=~THREE, value=paper), list(fitting(THREE, *paper.samples)) == [stack])
        self.assertIs(shows_told(THREE, Told(Stack(C, F, X), (sample,))), True)
        self.assertIs(shows_told(THREE, Told(Stack(C, X, F), (sample,))), False)
        self.assertIs(shows_told(THREE, Told(Stack(C, F, X), (sample, Sample.of(Program(), THREE), sample))), True)
        self.assertIs(shows_told(THREE, Told(Stack(C, F, X), ())), False)
        self.assertIs(shows_told(Stack(X, L), Told(Stack(L, X), ())), True)
        self.assertIs(shows_told(Stack(), Told(Stack(), ())), True)

    def test_stacks_that_are_not_normal_or_of_other_handlers(self):
        stack = Stack(X, L, F)
        sample = Sample.of(Program.read("put x 1 ; say l a ; fail f"), stack)
        self.assertIs(shows_told(stack, Told(Stack(L, X, F), (sample,))), True)
        for other in [stack, Stack(F, L, X), Stack(L, X), Stack(L, X, F, C), Stack(L, Cell("x", 3), F), Stack(L, Y, F), None, "log l, cell x 2, failure f"]:
            self.assertIs(shows_told(stack, Told(other, (sample,))), False)

    def test_samples_that_do_not_fit(self):
        good = Sample.of(SHORT, Stack(C, F, X))
        for samples in [
            (good, Sample(SHORT, ())), (good, Sample(SHORT, [End(None, {"x": 1}, {})])), (Sample(SHORT, [End("f", {"x": False}, {}), End(None, {"x": 0}, {})]),),
            [good], (good, None), good, None, (SHORT,), (good.ends,), {0: good}, (good, (good,)),
        ]:
            self.assertIs(shows_told(THREE, Told(Stack(C, F, X), samples)), False)

    def test_samples_for_which_fitting_raises(self):
        good = Sample.of(SHORT, Stack(C, F, X))
        for program in [Program.read("put q 1"), both(7), Program.read("put x 3"), both(3) + says(50)]:
            self.assertIs(shows_told(THREE, Told(Stack(C, F, X), (good, Sample(program, [])))), False)
            self.assertIs(shows_told(THREE, Told(Stack(C, F, X), (Sample(program, []), good))), False)
        words = Sample(both(3) + says(50) + Leave(), [])
        self.assertIs(shows_told(Stack(C, L), Told(Stack(C, L), (Sample.of(POOL[4], Stack(C, L)), words))), False)

    def test_any_values(self):
        good = Sample.of(SHORT, Stack(C, F, X))
        for value in values():
            self.assertIs(shows_told(THREE, value), False)
            self.assertIs(shows_told(THREE, Told(value, (good,))), False)
            self.assertIs(shows_told(THREE, Told(Stack(C, F, X), value)), False)
            self.assertIs(shows_told(THREE, Told(Stack(C, F, X), (good, value))), False)

    def test_bent_in_one_part(self):
        dice = random.Random(65)
        for stack in rows_of(Stack(X, L, F, C))[::4]:
            found = told_back(Stack(X, L, F, C), lambda program: ends(program, stack))
            self.assertIs(shows_told(stack, found), True)
            for at in range(len(found.samples)):
                left = found.samples[:at] + found.samples[at + 1:]
                self.assertIs(shows_told(stack, Told(found.stack, left)), list(fitting(stack, *left)) == [found.stack])
            for other in rows_of(stack):
                self.assertIs(shows_told(stack, Told(other, found.samples)), other == found.stack)
            more = Sample.of(random_program_of(dice, stack), stack)
            self.assertIs(shows_told(stack, Told(found.stack, (*found.samples, more))), True)


def random_program_of(dice, stack):
    """A program that a stack takes and shows."""
    while True:
        program = random_program(dice, 1) + Put("x", 1)
        if stack.takes(program):
            return program


class ClassesTest(LayerCase):
    def test_rows(self):
        self.assertEqual(rows_of(THREE), list(classes(THREE)))
