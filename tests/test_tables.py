"""Tables of all talks with a program."""

import random

from layerseen.errors import BadProgram, BadStack, BadTalk, TooMany, Unfit
from layerseen.handlers import Cell
from layerseen.programs import Leave, Program
from layerseen.stacks import Stack
from layerseen.tables import Table, shows_table, table
from layerseen.talks import Broke, Ended, Failed, Over, Stopped, Talk
from tests.oracle_talk import shared_of, table_of, values_of
from tests.support import LayerCase, values
from tests.test_player_orders import random_program
from tests.test_talks import ORDERS, both, says

OWN, SHARED = Stack.read("choice, cell x 2"), Stack.read("cell x 2, choice")
X = (("x", 2),)


def small_enough(program, stack, cells):
    """Whether there are so few talks that the slow model can go through all of them."""
    wide = len(values_of(stack, shared_of(stack, cells)))
    return wide ** str(program).count("choose") * len(values_of(stack, cells)) < 150


class LeastTest(LayerCase):
    def test_by_hand(self):
        over = Over({"x": 0}, {}), Over({"x": 1}, {})
        end = Ended({"x": 0}, {}), Ended({"x": 1}, {})
        last = ((over[0], None), (over[1], None))
        for text, stack, rows in [
            ("skip", Stack(), (((Over({}, {}), None),), ((Ended({}, {}), 0),))), ("none", Stack(), (((Over({}, {}), None),),)),
            ("stop", Stack(), (((Stopped({}, {}), None),),)),
            ("put x 1", OWN, (((Over({}, {}), None),), ((end[1], 0), (end[1], 0)))),
            ("copy x x", OWN, (((Over({}, {}), None),), ((end[0], 0), (end[1], 0)))),
            ("put x 1", SHARED, (last, ((end[1], 0), (end[1], 0)))), ("copy x x", SHARED, (last, ((end[0], 0), (end[1], 0)))),
            ("copy x x ; none", SHARED, (last,)), ("copy x x ; none", OWN, (((Over({}, {}), None),) * 2,)),
            ("choose ( put x 1 ) or ( skip )", SHARED, (last, ((end[0], 0), (end[1], 0)), ((end[1], 1), (end[1], 1)))),
            ("choose ( put x 1 ) or ( skip )", OWN, (
                ((Over({}, {}), None),), ((end[0], 0),), ((end[1], 0),), ((end[1], 1), (end[1], 2)),
            )),
            ("choose ( skip ) or ( put x 1 )", OWN, (((Over({}, {}), None),), ((end[1], 0),), ((end[0], 1), (end[1], 1)))),
            ("if x = 0 ( stop ) else ( skip )", SHARED, (last, ((Stopped({"x": 0}, {}), None), (end[1], 0)))),
        ]:
            names = tuple(name for name in ["x"] if name in stack)
            sizes = tuple((name, 2) for name in names)
            replied = names if stack == SHARED else ()
            expected = Table(sizes, replied, (), rows)
            program = Program.read(text)
            self.same(table(program, stack), expected)
            self.same(table(program=program, stack=stack), expected)
            self.assertIs(shows_table(program, stack, expected), True)
            self.assertIs(shows_table(program=program, stack=stack, paper=expected), True)

    def test_failures_and_logs(self):
        program = Program.read("choose ( say l a ; fail f ) or ( put x 1 ; say l b )")
        self.same(table(program, Stack.read("log l, choice, failure f, cell x 2")), Table(X, (), ("l",), (
            ((Over({}, {"l": ()}), None),), ((Ended({"x": 1}, {"l": ("b",)}), 0),), ((Failed("f", {}, {"l": ("a",)}), 1),) * 2,
        )))
        self.same(table(program, Stack.read("cell x 2, failure f, choice, log l")), Table(X, ("x",), ("l",), (
            ((Broke("f", {"x": 0}, {}), None), (Broke("f", {"x": 1}, {}), None)),
        )))

    def test_more_names(self):
        stack = Stack.read("cell y 3, log m, choice, cell x 2, log l")
        program = Program.read("put x 1")
        for names, sizes, replied, logs, many in [
            ((), X, (), (), 2), (("x",), X, (), (), 2), (("l", "l"), X, (), ("l",), 2), (("y",), (("x", 2), ("y", 3)), ("y",), (), 18),
            (("m", "y", "l", "x", "m"), (("x", 2), ("y", 3)), ("y",), ("l", "m"), 18),
        ]:
            found = table(program, stack, *names)
            self.same([found.sizes, found.replied, found.logs, found.talks], [sizes, replied, logs, many])
            self.assertIs(shows_table(program, stack, found, *names), True)
            self.assertIs(shows_table(program, stack, found), names in [(), ("x",)])
        self.same(table(program, stack, "l").rows[0], ((Over({}, {}), None),))
        self.same(table(program, stack, "m").rows[0], ((Over({}, {"m": ()}), None),))

    def test_against_all_talks(self):
        dice = random.Random(31)
        tried = 0
        while tried < 400:
            program, stack = random_program(dice, 2), dice.choice(ORDERS)
            names = dice.sample(["x", "y", "l"], dice.randrange(4))
            cells = sorted({*program.cells, *names} & {"x", "y"})
            logs = sorted({*program.logs, *names} & {"l"})
            if not small_enough(program, stack, cells):
                continue
            tried += 1
            rows, talks = table_of(program, stack, cells, logs)
            found = table(program, stack, *names)
            self.same(found.rows, rows)
            self.same([found.sizes, found.replied, found.logs], [
                tuple((name, stack.handler(name).size) for name in cells), tuple(shared_of(stack, cells)), tuple(logs),
            ])
            self.same([found.talks, found.longest], [len(talks), max(len(events) for start, answers, events in talks)])
            for start, answers, events in talks:
                self.same(found.told(start, *answers), events)
                for many in range(len(answers)):
                    self.same(found.told(start, *answers[:many]), events[:many + 1])
            self.assertIs(shows_table(program, stack, found, *names), True)
            self.assertEqual(table(program, stack, *names), found)

    def test_numbers_lead_to_earlier_rows_that_are_unlike(self):
        dice = random.Random(32)
        for turn in range(150):
            program, stack = random_program(dice, 3), dice.choice(ORDERS)
            try:
                rows = table(program, stack).rows
            except TooMany:
                continue
            for at, row in enumerate(rows):
                self.assertTrue(all(number is None or 0 <= number < at for event, number in row))
                self.assertNotIn(row, rows[:at])
            reached = {number for row in rows for event, number in row}
            self.assertLessEqual(set(range(len(rows) - 1)), reached)


class ToldTest(LayerCase):
    TABLE = table(Program.read("choose ( put x 1 ) or ( copy y x )"), Stack.read("cell x 2, choice, cell y 3"))

    def test_what_it_defines_itself(self):
        for name in ["talks", "longest"]:
            self.assertIs(type(vars(Table)[name]), property)
        for name in ["__init__", "__eq__", "told"]:
            self.assertIn(name, vars(Table))

    def test_told(self):
        for events in [self.TABLE.told({"x": 0, "y": 2}, {"x": 0}, {"x": 1}), self.TABLE.told(start={"y": 2, "x": 0})]:
            self.assertIs(type(events), tuple)
            self.assertEqual([str(event) for event in events], ["ended ; x 1 ; y 2", "ended ; x 0 ; y 0", "over ; x 1"][:len(events)])
        self.assertEqual(len(self.TABLE.told({"x": 0, "y": 2}, {"x": 0})), 2)

    def test_what_is_returned_belongs_to_the_caller(self):
        told = self.TABLE.told({"x": 0, "y": 2})
        told[0].cells["x"] = 9
        self.assertEqual(str(self.TABLE.told({"x": 0, "y": 2})[0]), "ended ; x 1 ; y 2")

    def test_wrong_values_in_order(self):
        good, reply = {"x": 0, "y": 2}, {"x": 0}
        bad = values(lambda value: isinstance(value, dict))
        for value in [*bad, {}, {"x": 0}, {"x": 0, "y": 3}, {"x": True, "y": 0}, {"x": 0, "y": 0, "z": 0}, {"x": -1, "y": 0}, {"x": 0, "y": None}]:
            self.refused(BadTalk("start"), self.TABLE.told, value)
            self.refused(BadTalk("start"), self.TABLE.told, value, None, reply, reply, reply)
        for value in [*bad, {}, {"y": 0}, {"x": 0, "y": 0}, {"x": 2}, {"x": True}, {"x": "0"}]:
            self.refused(BadTalk("reply"), self.TABLE.told, good, value)
            self.refused(BadTalk("reply"), self.TABLE.told, good, reply, value)
            self.refused(BadTalk("reply"), self.TABLE.told, good, reply, reply, reply, value)
        self.assertEqual(len(self.TABLE.told(good, reply, reply)), 3)
        self.refused(BadTalk("over"), self.TABLE.told, good, reply, reply, reply)
        self.refused(BadTalk("over"), self.TABLE.told, good, reply, reply, reply, reply)
        none = table(Program(Leave()), OWN)
        self.refused(BadTalk("over"), none.told, {}, {})


class PaperTest(LayerCase):
    def test_papers(self):
        self.is_paper(Table)

    def test_shows_table_for_others_that_tell_the_same(self):
        program = Program.read("choose ( put x 1 ) or ( skip )")
        rows = table(program, SHARED).rows
        for other in [
            (rows[0], rows[1], rows[1], (rows[2][0], (rows[2][1][0], 2))), (rows[0], rows[0], rows[1], ((rows[2][0][0], 2),) * 2),
            (rows[0], rows[1], rows[2], rows[2]), (rows[1], rows[0], rows[2]), rows[:2], rows[1:], (), rows + rows[:1],
        ]:
            self.assertIs(shows_table(program, SHARED, Table(X, ("x",), (), other)), False)
        self.assertIs(shows_table(program, SHARED, Table(X, ("x",), (), rows)), True)
        own = table(Program.read("copy x x"), OWN).rows
        swapped = (((Over({}, {}), None),), ((Ended({"x": 1}, {}), 0), (Ended({"x": 0}, {}), 0)))
        self.assertIs(shows_table(Program.read("copy x x"), OWN, Table(X, (), (), own)), True)
        self.assertIs(shows_table(Program.read("copy x x"), OWN, Table(X, (), (), swapped)), False)

    def test_shows_table_for_values_of_all_kinds(self):
        program = Program.read("put x 1")
        over, end = Over({}, {}), Ended({"x": 1}, {})
        rows = (((over, None),), ((end, 0), (end, 0)))
        self.assertIs(shows_table(program, OWN, Table(X, (), (), rows)), True)
        for bent in [
            (list(X), (), (), rows), ((["x", 2],), (), (), rows), (X, [], (), rows), (X, (), [], rows), (X, (), (), list(rows)),
            (X, (), (), (list(rows[0]), rows[1])), (X, (), (), (([over, None],), rows[1])), (X, (), (), (rows[0], ((end, False), (end, 0)))),
            (X, (), (), (rows[0], ((Ended({"x": True}, {}), 0), (end, 0)))), (X, (), (), (((over, 0),), rows[1])), (X, (), (), None),
            ((("x", 3),), (), (), rows), ((("y", 2),), (), (), rows), (X, ("x",), (), rows), (X, (), ("l",), rows), ((("x", True),), (), (), rows),
            (X, (), (), (rows[0], ((Stopped({"x": 1}, {}), 0), (end, 0)))), (X, (), (), (rows[0], rows[1][:1])), (X, (), (), (rows[0], rows[1] * 2)),
            (X, (), (), (((Over({}, []), None),), rows[1])), (X, (), (), (((Over({}, ()), None),), rows[1])), (X, (), (), (((over,),), rows[1])),
        ]:
            self.assertIs(shows_table(program, OWN, Table(*bent)), False, bent)
        for value in values():
            self.assertIs(shows_table(program, OWN, value), False)
            for at in range(4):
                row = [X, (), (), rows]
                row[at] = value
                expected = at in (1, 2) and value == () and isinstance(value, tuple)
                self.assertIs(shows_table(program, OWN, Table(*row)), expected)


class ErrorsTest(LayerCase):
    WORKS = [table, lambda program, stack, *names: shows_table(program, stack, None, *names)]

    def test_wrong_values_in_order(self):
        good = Program.read("put x 1")
        for work in self.WORKS:
            for value in values(lambda value: isinstance(value, Program)):
                self.refused(BadProgram("program"), work, value, None, None)
                self.refused(BadProgram("program"), work, value, OWN)
            for value in values(lambda value: isinstance(value, Stack)):
                self.refused(BadStack("stack"), work, good, value, None)
                self.refused(BadStack("stack"), work, good, value)
            self.refused(Unfit("y"), work, Program.read("put z 1 ; put y 1 ; put x 1"), OWN, None)
            self.refused(Unfit("choice"), work, both(7), Stack(), None)
            for value in [*values(lambda value: value in ["x"]), "choice", "y", "q"]:
                self.refused(BadTalk("names"), work, good, OWN, value)
                self.refused(BadTalk("names"), work, both(7), OWN, "x", value, "x")
            self.refused(BadTalk("names"), work, good, Stack.read("cell x 2, failure f"), "f")
            self.refused(TooMany("ends", 64), work, both(7), OWN, "x")

    def test_too_many_talks(self):
        # With four shared cells there are so many starts and replies: 2 * 2 * 2 * 4 of each, 1,024 talks of two events.
        stack = Stack.read("cell a 2, cell b 2, cell c 2, cell x 4, choice")
        names = ["a", "b", "c", "x"]
        for work in self.WORKS:
            self.refused(TooMany("talks", 5000), work, both(1), stack, *names)
        self.assertEqual(table(Program(), stack, *names).talks, 1024)

    def test_the_limit_itself(self):
        for last, many in [("skip", 5000), (str(both(1)), 5002), ("stop", 4999)]:
            program, stack = just_so_many(last), Stack.read("cell x 2, choice, cell y 4")
            if many <= 5000:
                found = table(program, stack)
                self.assertEqual([found.talks, found.longest], [many, 13])
                self.assertIs(shows_table(program, stack, found), True)
            else:
                for work in self.WORKS:
                    self.refused(TooMany("talks", 5000), work, program, stack)
        one_more = str(just_so_many("skip")).replace("( stop )", "( if y = 0 ( skip ) else ( stop ) )")
        self.refused(TooMany("talks", 5000), table, Program.read(one_more), Stack.read("cell x 2, choice, cell y 4"))

    def test_what_comes_first(self):
        stack = Stack.read("cell a 2, cell b 2, cell c 2, cell x 4, choice")
        for value, error in [(0, TooMany("ends", 64)), (1, TooMany("talks", 5000))]:
            text = f"if a = {value} ( {both(7)} ) else ( {both(1)} )"
            for work in self.WORKS:
                self.refused(error, work, Program.read(text), stack, "b", "c", "x")
        own = Stack.read("choice, cell a 2, cell x 4")
        self.refused(TooMany("ends", 64), table, Program.read(f"if a = 1 ( {both(7)} ) else ( skip )"), own)
        self.refused(TooMany("steps", 4000), table, Program.read(f"{both(8)} ; " + " ; ".join(["put a 1"] * 20) + " ; none"), own)
        self.refused(TooMany("words", 200), table, both(3) + says(50) + Leave(), Stack.read("log l, choice"))


def just_so_many(last):
    """A program with 4,998 talks when x and y are not both 1 and 3, and then those of its last part.

    With x shared, so many events give two to this power of talks: 7, 12, 9 and 8 events, a stop, a stop, two events.
    """
    seven = f"choose ( {both(2)} ) or ( choose ( skip ) or ( {both(1)} ) )"
    twelve, nine = f"choose ( {both(3)} ) or ( {both(2)} )", f"choose ( {both(3)} ) or ( skip )"
    first = f"if y = 0 ( {seven} ) else ( if y = 1 ( {twelve} ) else ( if y = 2 ( {nine} ) else ( {both(3)} ) ) )"
    second = f"if y = 2 ( {both(1)} ) else ( if y = 3 ( {last} ) else ( stop ) )"
    return Program.read(f"if x = 0 ( {first} ) else ( {second} )")


class TalkTest(LayerCase):
    def test_the_same_events_as_talks(self):
        dice = random.Random(33)
        for turn in range(200):
            program, stack = random_program(dice, 2), dice.choice(ORDERS)
            try:
                found = table(program, stack, "x", "y", "l")
            except TooMany:
                continue
            for again in range(5):
                start = dice.choice(values_of(stack, ["x", "y"]))
                talk, replies = Talk(program, stack, start, "l"), []
                while not talk.is_over:
                    replies.append(dice.choice(values_of(stack, talk.asked)))
                    talk.reply(replies[-1])
                self.same(found.told(start, *replies), talk.events)
                self.assertLessEqual(len(talk), found.longest)
                self.refused(BadTalk("over"), found.told, start, *replies, dict.fromkeys(talk.asked, 0))


class SizesTest(LayerCase):
    def test_sizes(self):
        stack = Stack(Cell("d", 4), Cell("a", 2), *SHARED[1:], Cell("c", 3))
        found = table(Program.read("put c 1"), stack, "d", "a")
        self.same([found.sizes, found.replied, found.logs], [(("a", 2), ("c", 3), ("d", 4)), ("a", "d"), ()])
        self.same([found.talks, len(found.rows[-1]), len(found.rows[0]), found.longest], [24 * 8, 24, 8, 2])
