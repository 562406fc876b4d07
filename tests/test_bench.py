"""Benches: programs under names, changes that can be taken back, trials."""

import random

from layerseen.bench import Bench
from layerseen.errors import (
    BadName, BadProgram, BadStack, LayerError, NoChange, NoName, NoPlace, Taken, TooMany, Unfit,
)
from layerseen.handlers import Cell, Choice, Failure
from layerseen.likeness import alike
from layerseen.names import is_name
from layerseen.player import ends
from layerseen.programs import Leave, Program, Put
from layerseen.slim import slimmed
from layerseen.stacks import Stack
from tests.support import LayerCase, values
from tests.test_likeness import POOL
from tests.test_talks import both, says

STACK = Stack.read("cell x 3, log l, failure f, choice")
PUT, SAY = Program.read("put x 1"), Program.read("say l a")


def bench_of(**programs):
    """A bench with these programs, of which nothing can be taken back."""
    bench = Bench(STACK)
    for name, program in programs.items():
        bench.put(name, program)
    return bench.twin()


def shown(bench):
    """All that can be seen of a bench, also what can be taken back, one change after another."""
    found = [(str(bench.stack_now), [(name, str(bench[name])) for name in bench])]
    with bench.trial():
        for word in bench.history[::-1]:
            assert bench.undo() == word
            found.append((word, str(bench.stack_now), [(name, str(bench[name])) for name in bench]))
    return found


class BenchCase(LayerCase):
    def refused_by(self, bench, error, work, *parts):
        """A call raises an error, and nothing changes, also in what can be taken back."""
        ahead = shown(bench)
        self.refused(error, work, *parts)
        self.assertEqual(shown(bench), ahead)

    def changed(self, bench, word, work, *parts):
        """A call is one change with this word, which can be taken back."""
        ahead, history = shown(bench), bench.history
        found = work(*parts)
        self.same(bench.history, (*history, word))
        behind = shown(bench)
        self.assertEqual(behind[2:], ahead[1:])
        self.same(bench.undo(), word)
        self.assertEqual(shown(bench), ahead)
        self.same(work(*parts), found)
        self.assertEqual(shown(bench), behind)
        return found


class ProgramsTest(BenchCase):
    def test_a_new_bench(self):
        for bench in [Bench(STACK), Bench(stack=STACK)]:
            self.same([len(bench), list(bench), bool(bench), bench.history, str(bench.stack_now)], [0, [], False, (), str(STACK)])
        for value in values(lambda value: isinstance(value, Stack)):
            self.refused(BadStack("stack"), Bench, value)

    def test_put(self):
        for put in [
            lambda bench, name, program: bench.put(name, program), lambda bench, name, program: bench.put(name=name, program=program),
            lambda bench, name, program: bench.__setitem__(name, program), lambda bench, name, program: bench.put(program=program, name=name),
        ]:
            bench = bench_of(b=PUT, d=SAY)
            self.assertIsNone(self.changed(bench, "put", put, bench, "c", SAY))
            self.same([list(bench), len(bench), bench["c"], bench["b"]], [["b", "c", "d"], 3, SAY, PUT])
            self.changed(bench, "put", put, bench, "c", PUT)
            self.same([list(bench), len(bench), bench["c"]], [["b", "c", "d"], 3, PUT])
            self.changed(bench, "put", put, bench, "c", PUT)
            self.same(bench.history, ("put", "put", "put"))
            self.changed(bench, "put", put, bench, "a", Program())
            self.same([list(bench), bench["a"]], [["a", "b", "c", "d"], Program()])

    def test_items_assigned(self):
        bench = bench_of()
        bench["x"] = PUT
        bench["f"] = SAY
        bench["x"] = SAY
        self.same([list(bench), bench["x"], bench.history], [["f", "x"], SAY, ("put", "put", "put")])
        with self.assertRaises(Unfit):
            bench["x"] = Program.read("put z 1")
        self.same(bench["x"], SAY)

    def test_add(self):
        bench = bench_of(b=PUT)
        self.assertIsNone(self.changed(bench, "put", bench.add, "a", SAY))
        self.same([list(bench), bench["a"]], [["a", "b"], SAY])
        bench.add(name="c", program=PUT)
        self.same(bench.history, ("put", "put"))
        self.refused_by(bench, Taken("b"), bench.add, "b", PUT)
        self.refused_by(bench, Taken("b"), bench.add, "b", None)
        self.refused_by(bench, Taken("c"), bench.add, "c", Program.read("put q 1"))
        bench.drop("b")
        bench.add("b", SAY)
        self.same(bench["b"], SAY)

    def test_wrong_values_in_order(self):
        bench = bench_of(b=PUT)
        for put in [bench.put, bench.add, bench.__setitem__]:
            for value in values(is_name):
                for program in [PUT, None, Program.read("put q 1")]:
                    self.refused_by(bench, BadName(value), put, value, program)
            for value in values(lambda value: isinstance(value, Program)):
                self.refused_by(bench, BadProgram("program"), put, "a", value)
            for text, name in [("put x 3", "x"), ("put q 1 ; put a 1", "a"), ("fail x", "x"), ("say x a", "x"), ("catch l ( skip ) else ( skip )", "l")]:
                self.refused_by(bench, Unfit(name), put, "a", Program.read(text))
        bare = Bench(Stack.read("cell x 2"))
        self.refused_by(bare, Unfit("choice"), bare.put, "a", Program() | Program())

    def test_twelve_programs(self):
        bench = bench_of(**{name: PUT for name in "abcdefghijk"})
        bench.put("l", SAY)
        self.assertEqual(len(bench), 12)
        for work in [bench.put, bench.add, bench.__setitem__]:
            self.refused_by(bench, TooMany("programs", 12), work, "m", PUT)
            self.refused_by(bench, BadProgram("program"), work, "m", None)
            self.refused_by(bench, Unfit("q"), work, "m", Program.read("put q 1"))
            self.refused_by(bench, BadName("if"), work, "if", PUT)
        self.refused_by(bench, Taken("l"), bench.add, "l", PUT)
        self.refused_by(bench, TooMany("programs", 12), bench.glue, "m")
        self.refused_by(bench, TooMany("programs", 12), bench.glue, "m", "a", "b")
        bench.put("a", SAY)
        bench.glue("b", "b", "c")
        bench["c"] = SAY
        self.same([bench["a"], bench["b"], bench["c"], len(bench)], [SAY, PUT + PUT, SAY, 12])
        bench.drop("e")
        bench.put("m", PUT)
        self.assertEqual(list(bench), list("abcdfghijklm"))

    def test_reading_items(self):
        bench = bench_of(b=PUT, a=SAY)
        self.same([bench["a"], bench["b"], "a" in bench, "b" in bench, "c" in bench], [SAY, PUT, True, True, False])
        for value in [*values(), ["a"], ("a",), b"a", {"a": 1}, PUT]:
            self.assertIs(value in bench, False)
            self.refused_by(bench, NoName(value), lambda name: bench[name], value)
            self.refused_by(bench, NoName(value), bench.drop, value)
            self.refused_by(bench, NoName(value), bench.play, value)
            self.refused_by(bench, NoName(value), bench.slim, value)

    def test_iteration(self):
        bench = bench_of(**{name: PUT for name in ["b", "ab", "a", "ba", "z"]})
        self.assertEqual([name for name in bench], ["a", "ab", "b", "ba", "z"])
        for name in bench:
            bench.drop(name)
        self.same([len(bench), bool(bench), bench.history], [0, False, ("drop",) * 5])

    def test_drop(self):
        bench = bench_of(a=PUT, b=SAY, c=PUT)
        self.assertIsNone(bench.drop("b"))
        self.same([list(bench), bench.history], [["a", "c"], ("drop",)])
        bench.drop(name="a")
        self.same(list(bench), ["c"])
        self.refused_by(bench, NoName("a"), bench.drop, "a")
        self.same([bench.undo(), list(bench), bench["a"]], ["drop", ["a", "c"], PUT])

    def test_glue(self):
        bench = bench_of(a=PUT, b=SAY)
        for name, names, program in [
            ("c", ["a", "b"], PUT + SAY), ("c", ["b", "a", "a"], SAY + PUT + PUT), ("a", ["a"], PUT), ("b", [], Program()), ("d", [], Program()),
            ("a", ["a", "c", "a"], PUT + SAY + PUT + PUT + PUT), ("e", ["b", "d"], Program()),
        ]:
            self.assertIsNone(bench.glue(name, *names))
            self.same(bench[name], program)
        self.same(bench.history, ("put",) * 7)

    def test_glue_refused(self):
        bench = bench_of(a=Program.read(" ; ".join(["put x 1"] * 30)), b=PUT)
        for value in values(is_name):
            self.refused_by(bench, BadName(value), bench.glue, value)
            self.refused_by(bench, BadName(value), bench.glue, value, "q", "a", "a", "b")
        for value in values():
            self.refused_by(bench, NoName(value), bench.glue, "c", value)
            self.refused_by(bench, NoName(value), bench.glue, "c", "a", "a", "b", value, "q")
        bench.glue("c", "a", "a")
        self.same(bench["c"].size, 60)
        self.refused_by(bench, TooMany("deeds", 60), bench.glue, "c", "a", "a", "b")
        self.refused_by(bench, TooMany("deeds", 60), bench.glue, "d", "b", "c")
        for name in "defghijkl":
            bench.glue(name, "b")
        self.assertEqual(len(bench), 12)
        self.refused_by(bench, TooMany("deeds", 60), bench.glue, "m", "b", "c")
        self.refused_by(bench, TooMany("programs", 12), bench.glue, "m", "b", "b")
        self.refused_by(bench, NoName("m"), bench.glue, "m", "m")

    def test_slim(self):
        bench = bench_of(a=Program.read("put x 1 ; put x 2"), b=Program.read("put x 1 ; none ; say l a"), c=PUT)
        for name in "abc":
            expected = slimmed(bench[name], STACK)
            found = self.changed(bench, "slim", bench.slim, name) if name == "c" else bench.slim(name)
            self.same(found, len(expected.paths))
            self.same(bench[name], expected.program)
        # Nothing was left out of c: one change all the same.
        self.same(bench.history, ("slim",) * 3)
        self.same([str(bench["a"]), str(bench["b"]), str(bench["c"])], ["put x 2", "put x 1 ; none", "put x 1"])
        bench.exchange(2)
        bench.set_stack(Stack.read("choice, failure f, cell x 3, log l"))
        self.same([bench.slim(name="b"), str(bench["b"])], [1, "none"])
        bench.put("c", both(7))
        self.refused_by(bench, TooMany("ends", 64), bench.slim, "c")

    def test_what_was_passed_stays_as_it_was(self):
        program = Program.read("put x 1 ; put x 2")
        bench = bench_of()
        bench.put("a", program)
        bench.glue("b", "a", "a")
        bench.slim("a")
        bench.exchange(0)
        self.same([str(program), str(STACK)], ["put x 1 ; put x 2", "cell x 3, log l, failure f, choice"])
        found = list(bench)
        found.append("q")
        self.same(list(bench), ["a", "b"])


class StackTest(BenchCase):
    def test_set_stack(self):
        other = Stack.read("choice, cell x 4, log l, failure f, cell y 2")

        def assign(bench, stack):
            bench.stack_now = stack

        for put in [lambda bench, stack: bench.set_stack(stack), lambda bench, stack: bench.set_stack(stack=stack), assign]:
            bench = bench_of(a=PUT, b=SAY)
            self.assertIsNone(self.changed(bench, "stack", put, bench, other))
            self.same([bench.stack_now, list(bench), bench["a"]], [other, ["a", "b"], PUT])
            self.changed(bench, "stack", put, bench, other)
            self.changed(bench, "stack", put, bench, STACK)
            self.same([bench.stack_now, bench.history], [STACK, ("stack",) * 3])
            bench.drop("a")
            bench.drop("b")
            put(bench, Stack())
            self.same(bench.stack_now, Stack())

    def test_set_stack_refused(self):
        bench = bench_of(c=Program.read("put x 2"), b=SAY, a=Program())
        for work in [bench.set_stack, bench.unmoved, lambda stack: setattr(bench, "stack_now", stack)]:
            for value in values(lambda value: isinstance(value, Stack)):
                self.refused_by(bench, BadStack("stack"), work, value)
            for row, name in [("-", "l"), ("log l, cell x 2", "x"), ("log l", "x"), ("cell l 2", "l"), ("cell x 2", "l"), ("log l, log x", "x")]:
                self.refused_by(bench, Unfit(name), work, Stack.read(row))
        self.assertIs(type(vars(Bench)["stack_now"]), property)
        self.assertIs(type(vars(Bench)["history"]), property)

    def test_exchange(self):
        bench = bench_of(a=PUT)
        for place, meets in [(0, False), (1, True), (2, True), (1, True)]:
            expected = bench.stack_now.exchanged(place)
            self.same(bench.exchange(place), meets)
            self.same(bench.stack_now, expected)
        self.same([bench.history, bench.exchange(place=0)], [("exchange",) * 4, True])
        for value in values(lambda value: value in [0, 1, 2] and type(value) is int):
            self.refused_by(bench, NoPlace(value), bench.exchange, value)
        for row in ["-", "cell x 2"]:
            short = Bench(Stack.read(row))
            self.refused_by(short, NoPlace(0), short.exchange, 0)

    def test_play_and_alike(self):
        bench = Bench(STACK)
        for at, program in enumerate(POOL[:12]):
            bench.put("abcdefghijkl"[at], program)
        for turn in range(4):
            for name in bench:
                self.same(bench.play(name), ends(bench[name], bench.stack_now))
                for other in bench:
                    self.same(bench.alike(name, other), alike(bench[name], bench[other], bench.stack_now))
            bench.exchange(turn % 3)
        self.same(bench.play(name="a"), bench.play("a"))
        self.same(bench.alike(one="a", other="b"), bench.alike("a", "b"))
        self.same(bench.history, ("put",) * 12 + ("exchange",) * 4)

    def test_play_and_alike_refused(self):
        bench = bench_of(a=both(7), b=PUT, c=both(3) + says(50) + Leave())
        for value in values():
            self.refused_by(bench, NoName(value), bench.play, value)
            self.refused_by(bench, NoName(value), bench.alike, value, "a")
            self.refused_by(bench, NoName(value), bench.alike, value, None)
            self.refused_by(bench, NoName(value), bench.alike, "a", value)
            self.refused_by(bench, NoName("q"), bench.alike, "q", value)
        self.refused_by(bench, TooMany("ends", 64), bench.play, "a")
        self.refused_by(bench, TooMany("words", 200), bench.play, "c")
        for one, other, what, most in [("a", "b", "ends", 64), ("b", "a", "ends", 64), ("c", "a", "words", 200), ("a", "c", "ends", 64)]:
            self.refused_by(bench, TooMany(what, most), bench.alike, one, other)
        for other in [STACK, ~STACK]:
            self.refused_by(bench, TooMany("ends", 64), bench.unmoved, other)
        # Of all programs it is asked first whether the stack takes them.
        self.refused_by(bench, Unfit("l"), bench.unmoved, STACK - "l")
        bench.put("z", Program.read("put x 2"))
        self.refused_by(bench, Unfit("x"), bench.unmoved, Stack.read("cell x 2, log l, choice"))
        bench.drop("a")
        self.refused_by(bench, TooMany("words", 200), bench.unmoved, STACK)
        self.refused_by(bench, TooMany("words", 200), bench.unmoved, Stack.read("choice, log l, cell x 3"))

    def test_unmoved(self):
        dice = random.Random(101)
        bench = Bench(STACK)
        for turn in range(60):
            for name in "abcdef":
                bench.put(name, dice.choice(POOL))
            row = list(STACK)
            dice.shuffle(row)
            if turn % 3 == 0:
                row.append(Cell("z"))
            other = Stack(*row)
            expected = [name for name in bench if ends(bench[name], other) == ends(bench[name], bench.stack_now)]
            ahead = shown(bench)[:3]
            self.same(bench.unmoved(other), tuple(expected))
            self.same(bench.unmoved(stack=other), tuple(expected))
            self.assertEqual(shown(bench)[:3], ahead)
            bench.exchange(turn % 3)
        self.same(bench.unmoved(bench.stack_now), tuple("abcdef"))
        self.same(Bench(STACK).unmoved(Stack()), ())
        self.refused(BadStack("stack"), Bench(STACK).unmoved, None)


class ChangesTest(BenchCase):
    def do(self, bench, dice):
        """Something that changes a bench, or is refused."""
        name = dice.choice("abcd")
        work = dice.choice([
            lambda: bench.put(name, dice.choice(POOL)), lambda: bench.__setitem__(name, dice.choice(POOL)), lambda: bench.add(name, dice.choice(POOL)),
            lambda: bench.glue(name, *dice.choices("abcd", k=dice.randrange(3))), lambda: bench.slim(name), lambda: bench.drop(name),
            lambda: bench.set_stack(~bench.stack_now), lambda: setattr(bench, "stack_now", STACK), lambda: bench.exchange(dice.randrange(4)), bench.undo,
        ])
        try:
            work()
        except LayerError:
            return False
        return True

    def test_undo_against_snapshots(self):
        dice = random.Random(102)
        done = 0
        for turn in range(40):
            bench = Bench(STACK)
            before = [bench.twin()]
            for step in range(40):
                many = len(bench.history)
                ahead = bench.twin()
                if not self.do(bench, dice):
                    self.assertEqual(bench, ahead)
                    self.assertEqual(len(bench.history), many)
                elif len(bench.history) < many:
                    before.pop()
                else:
                    self.assertEqual(len(bench.history), many + 1)
                    before.append(bench.twin())
                self.assertEqual(len(before), len(bench.history) + 1)
                self.assertEqual(bench, before[-1])
            while bench.history:
                done += 1
                word = bench.history[-1]
                before.pop()
                self.same(bench.undo(), word)
                self.assertEqual(bench, before[-1])
            self.refused_by(bench, NoChange(), bench.undo)
        self.assertGreater(done, 500)

    def test_words_of_each_change(self):
        bench = bench_of()
        bench.put("a", PUT)
        bench.add("b", SAY)
        bench["c"] = PUT
        bench.glue("d", "a", "b")
        bench.slim("a")
        bench.drop("c")
        bench.set_stack(STACK)
        bench.stack_now = STACK
        bench.exchange(0)
        bench.play("a")
        bench.alike("a", "b")
        bench.unmoved(STACK)
        self.same(bench.history, ("put", "put", "put", "put", "slim", "drop", "stack", "stack", "exchange"))
        self.same([bench.undo() for turn in range(9)], ["exchange", "stack", "stack", "drop", "slim", "put", "put", "put", "put"])
        self.same([len(bench), bench.history], [0, ()])
        self.refused_by(bench, NoChange(), bench.undo)

    def test_changes_behind_which_nothing_is_otherwise(self):
        bench = bench_of(a=PUT)
        ahead = bench.twin()
        for word, work in [
            ("put", lambda: bench.put("a", PUT)), ("put", lambda: bench.glue("a", "a")), ("slim", lambda: bench.slim("a")), ("stack", lambda: bench.set_stack(STACK)),
            ("put", lambda: bench.__setitem__("a", PUT)), ("stack", lambda: setattr(bench, "stack_now", STACK)),
        ]:
            self.changed(bench, word, work)
            self.assertEqual(bench, ahead)
        self.same(bench.history, ("put", "put", "slim", "stack", "put", "stack"))


class TrialTest(BenchCase):
    def test_trial(self):
        bench = bench_of(a=PUT)
        bench.put("b", SAY)
        ahead = shown(bench)
        with bench.trial() as same:
            self.assertIs(same, bench)
            same.drop("a")
            bench.put("c", PUT)
            bench.exchange(1)
            self.same([list(bench), bench.history], [["b", "c"], ("put", "drop", "put", "exchange")])
        self.assertEqual(shown(bench), ahead)
        with bench.trial():
            self.same([bench.undo(), list(bench)], ["put", ["a"]])
            self.refused(NoChange(), bench.undo)
            bench.drop("a")
        self.assertEqual(shown(bench), ahead)
        with bench.trial():
            pass
        self.assertEqual(shown(bench), ahead)

    def test_a_trial_that_an_error_leaves(self):
        bench = bench_of(a=PUT)
        bench.exchange(0)
        ahead = shown(bench)
        for error in [Unfit("x"), KeyError("x"), KeyboardInterrupt()]:
            with self.assertRaises(type(error)) as caught:
                with bench.trial() as same:
                    same.undo()
                    same.drop("a")
                    raise error
            self.assertIs(caught.exception, error)
            self.assertEqual(shown(bench), ahead)
        with self.assertRaises(NoName):
            with bench.trial():
                bench.drop("a")
                bench.drop("a")
        self.assertEqual(shown(bench), ahead)

    def test_one_within_another(self):
        bench = bench_of(a=PUT)
        bench.put("b", SAY)
        ahead = shown(bench)
        with bench.trial():
            bench.put("c", PUT)
            inner = shown(bench)
            with bench.trial() as same:
                self.same([bench.undo(), bench.undo()], ["put", "put"])
                with same.trial():
                    bench.drop("a")
                    self.same(len(bench), 0)
                self.same(list(bench), ["a"])
            self.assertEqual(shown(bench), inner)
            with self.assertRaises(NoChange):
                with bench.trial():
                    while True:
                        bench.undo()
            self.assertEqual(shown(bench), inner)
            self.same(bench.undo(), "put")
            bench.drop("b")
        self.assertEqual(shown(bench), ahead)

    def test_a_trial_begins_with_its_block(self):
        bench = bench_of(a=PUT)
        trial = bench.trial()
        bench.drop("a")
        for turn in range(2):
            with trial:
                bench.put("b", SAY)
            self.same([list(bench), bench.history], [[], ("drop",)])

    def test_tried(self):
        bench = bench_of(a=PUT)
        bench.put("b", SAY)
        ahead = shown(bench)
        found = []
        self.same(bench.tried(lambda same: (found.append(same), same.drop("b"), same.undo(), same.undo(), len(same))), (None, None, "drop", "put", 1))
        self.assertIs(found[0], bench)
        self.assertEqual(shown(bench), ahead)
        self.assertIsNone(bench.tried(lambda same: same.drop("a")))
        self.same(bench.tried(work=len), 2)
        self.same(bench.tried(lambda same: same.tried(lambda again: (again.drop("a"), list(again))[1]) + list(same)), ["b", "a", "b"])
        self.refused_by(bench, NoName("q"), bench.tried, lambda same: (same.drop("a"), same["q"]))
        self.assertEqual(shown(bench), ahead)
        kept = bench.tried(lambda same: (same.drop("a"), same.twin())[1])
        self.same([list(kept), kept.history], [["b"], ()])


class EqualTest(BenchCase):
    def test_twin(self):
        bench = bench_of(a=PUT)
        bench.put("b", SAY)
        bench.exchange(0)
        twin = bench.twin()
        self.assertIsNot(twin, bench)
        self.assertEqual(twin, bench)
        self.same([twin.history, bench.history, list(twin)], [(), ("put", "exchange"), ["a", "b"]])
        self.refused_by(twin, NoChange(), twin.undo)
        twin.drop("a")
        self.same([list(bench), list(twin), twin.history], [["a", "b"], ["b"], ("drop",)])
        bench.undo()
        bench.put("a", SAY)
        self.same([list(twin), str(twin.stack_now)], [["b"], str(STACK.exchanged(0))])
        self.same([twin.undo(), twin["a"]], ["drop", PUT])

    def test_equal(self):
        self.only_equal_to_itself(lambda: bench_of(a=PUT))
        self.only_equal_to_itself(lambda: Bench(STACK))
        one, other = bench_of(a=PUT, b=SAY), bench_of(b=PUT, a=PUT)
        self.assertNotEqual(one, other)
        other.put("b", SAY)
        self.assertEqual(one, other)
        for work in [
            lambda: other.exchange(0), lambda: other.drop("a"), lambda: other.put("a", SAY), lambda: other.put("c", PUT), lambda: other.set_stack(STACK + Cell("z")),
            lambda: other.set_stack(Stack.read("cell x 4, log l, failure f, choice")),
        ]:
            work()
            self.assertNotEqual(one, other)
            self.assertTrue(one != other)
            other.undo()
            self.assertEqual(one, other)
        other.drop("a")
        other.put("z", PUT)
        self.assertNotEqual(one, other)
        self.assertNotEqual(Bench(STACK), Bench(Stack(Failure("f"), Choice())))

    def test_methods_of_the_class(self):
        for name in [
            "__init__", "__getitem__", "__setitem__", "__contains__", "__len__", "__iter__", "__eq__", "put", "add", "glue", "slim", "drop", "stack_now", "set_stack",
            "exchange", "play", "alike", "unmoved", "history", "undo", "trial", "tried", "twin",
        ]:
            self.assertIn(name, vars(Bench))

    def test_a_program_of_one_deed_alone(self):
        bench = bench_of()
        self.refused_by(bench, BadProgram("program"), bench.put, "a", Put("x", 1))
