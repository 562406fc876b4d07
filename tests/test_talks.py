"""Talks with programs, and the events that they tell."""

import itertools
import random

from layerseen.ends import End, ends_text
from layerseen.errors import BadName, BadProgram, BadStack, BadTalk, TooMany, Unfit
from layerseen.player import ends
from layerseen.programs import Leave, Program
from layerseen.stacks import Stack
from layerseen.talks import Broke, Ended, Event, Failed, Over, Stopped, Talk, replies, starts
from tests.oracle_talk import shared_of, talk_of, values_of
from tests.support import LayerCase, is_whole, same, values
from tests.test_player_orders import random_program

HANDLERS = Stack.read("cell x 2, cell y 3, log l, failure f, failure g, choice")
ORDERS = [Stack(*row) for row in itertools.permutations(HANDLERS)]
EVENTS = [Ended, Failed, Broke, Stopped, Over]


def talk_about(text, row, start, *logs):
    return Talk(Program.read(text), Stack.read(row), start, *logs)


def both(many):
    """So many chooses of nothing and nothing."""
    return (Program() | Program()) * many


class EventsTest(LayerCase):
    def test_papers(self):
        for made in EVENTS:
            self.is_paper(made)
            self.assertIn("__str__", vars(made))
            self.assertIs(made.__base__, Event)

    def test_classes_are_unlike(self):
        for made, other in itertools.permutations(EVENTS, 2):
            for parts in [({"x": 1}, {}), ("f", {"x": 1}, {})]:
                if len(parts) == 3 and not {made, other} <= {Failed, Broke}:
                    continue
                if len(parts) == 2 and {made, other} & {Failed, Broke}:
                    continue
                self.assertFalse(made(*parts) == other(*parts))
                self.assertTrue(made(*parts) != other(*parts))
        self.assertFalse(Ended({}, {}) == End(None, {}, {}))

    def test_texts(self):
        for event, text in [
            (Ended({}, {}), "ended"), (Over({}, {}), "over"), (Stopped({"x": 1}, {}), "stopped ; x 1"),
            (Failed("f", {"y": 0, "x": 3}, {}), "failed f ; x 3 ; y 0"), (Broke("abc", {}, {"l": ()}), "broke abc ; l -"),
            (Ended({"x": 1, "z": 2}, {"m": ("a",), "l": ("put", "b", "b")}), "ended ; x 1 ; z 2 ; l put b b ; m a"),
            (Over({"x": 0}, {"a": (), "b": ("c",)}), "over ; x 0 ; a - ; b c"), (Failed("g", {}, {}), "failed g"),
        ]:
            self.assertEqual(str(event), text)


class MakingTest(LayerCase):
    STACK = Stack.read("cell x 2, log m, failure f, choice, cell y 3, log l")

    def test_what_it_defines_itself(self):
        for name in (
            "__init__ __len__ __iter__ __getitem__ __contains__ __eq__ __str__ __call__ __iadd__ is_over reply run undo twin trial tried"
        ).split():
            self.assertIn(name, vars(Talk))
        self.assertIs(type(vars(Talk)["is_over"]), property)

    def test_attributes(self):
        program = Program.read("put x 1 ; say l a")
        for talk in [
            Talk(program, self.STACK, {"y": 2, "x": 0}, "m", "l", "m"), Talk(program, stack=self.STACK, start={"x": 0, "y": 2}),
            Talk(program=program, stack=self.STACK, start={"x": 0, "y": 2}),
        ]:
            self.assertEqual([talk.program, talk.stack, talk.start], [program, self.STACK, {"x": 0, "y": 2}])
            self.same([talk.asked, talk.replies, type(talk.events)], [("x",), (), tuple])
            self.assertLessEqual(
                {"program", "stack", "start", "asked", "events", "replies"}, set(vars(talk)),
            )
        self.assertEqual(str(Talk(program, self.STACK, {"y": 2, "x": 0}, "m", "l", "m")), "ended ; x 1 ; y 2 ; l a ; m -")
        self.assertEqual(str(Talk(program, self.STACK, {"x": 0})), "ended ; x 1 ; l a")

    def test_no_choice_and_no_things(self):
        talk = talk_about("skip", "-", {})
        self.assertEqual([talk.asked, str(talk), str(talk.reply({})), talk.is_over], [(), "ended", "over", True])
        talk = talk_about("put x 1", "cell x 2", {"x": 0})
        self.assertEqual([talk.asked, str(talk), str(talk.reply({}))], [(), "ended ; x 1", "over"])

    def test_wrong_values_in_order(self):
        good = Program.read("put x 1")
        for value in values(lambda value: isinstance(value, Program)):
            self.refused(BadProgram("program"), Talk, value, None, None, None)
            self.refused(BadProgram("program"), Talk, value, self.STACK, {"x": 0})
        for value in values(lambda value: isinstance(value, Stack)):
            self.refused(BadStack("stack"), Talk, good, value, None, None)
            self.refused(BadStack("stack"), Talk, good, value, {"x": 0})
        for text, name in [("put x 2", "x"), ("put q 1 ; say a b", "a"), ("fail x", "x")]:
            self.refused(Unfit(name), Talk, Program.read(text), self.STACK, None, None)
        self.refused(Unfit("choice"), Talk, both(1), Stack(), None)
        for value in values(lambda value: isinstance(value, dict)):
            self.refused(BadTalk("start"), Talk, good, self.STACK, value, None)
            self.refused(BadTalk("start"), Talk, good, self.STACK, value)
        for start in [
            {}, {"y": 0}, {"x": 2}, {"x": -1}, {"x": True}, {"x": "0"}, {"x": None}, {"x": 0, "y": 3}, {"x": 0, "l": 0}, {"x": 0, "f": 0},
            {"x": 0, "choice": 0}, {"x": 0, "q": 0}, {"x": 0, 0: 0}, {"x": 0, None: 0}, {"x": 0, ("y",): 0}, {"x": 0, "y": [0]}, {"x": (0,)},
        ]:
            self.refused(BadTalk("start"), Talk, good, self.STACK, start)
            self.refused(BadTalk("start"), Talk, good, self.STACK, start, "q")
        for value in values():
            self.refused(BadTalk("logs"), Talk, good, self.STACK, {"x": 0}, value)
            self.refused(BadTalk("logs"), Talk, good, self.STACK, {"x": 0}, "l", value, "m")
            for key in [value] if isinstance(value, (str, int)) else []:
                self.refused(BadTalk("start"), Talk, Program(), self.STACK, {key: 5})
                self.assertEqual(key in ["x"], not raises(Talk, Program(), self.STACK, {key: 0}))
        for name in ["x", "f", "choice", "q", "put"]:
            self.refused(BadTalk("logs"), Talk, good, self.STACK, {"x": 0}, name)
        wordy, stack = both(3) + says(50) + Leave(), Stack.read("log l, choice, cell x 2")
        self.refused(BadTalk("start"), Talk, wordy, stack, {"q": 0}, "x")
        self.refused(BadTalk("logs"), Talk, wordy, stack, {"x": 0}, "x")
        self.refused(TooMany("words", 200), Talk, wordy, stack, {"x": 0}, "l")

    def test_what_is_done_to_an_argument_afterwards_changes_nothing(self):
        start = {"x": 0, "y": 1}
        talk = talk_about("choose ( put x 1 ) or ( copy y x )", str(self.STACK), start)
        start["x"] = 1
        del start["y"]
        self.assertEqual(talk.start, {"x": 0, "y": 1})
        values = {"x": 0}
        talk.reply(values)
        values["x"] = 1
        values["y"] = 0
        self.assertEqual([talk.replies, str(talk[1])], [({"x": 0},), "ended ; x 0 ; y 0"])


def raises(work, *parts):
    """Whether a call raises a BadTalk."""
    try:
        work(*parts)
    except BadTalk:
        return True
    return False


def says(many):
    """A program that says so many words to the log l."""
    return Program.read(" ; ".join(["say l a"] * many))


class GoingOnTest(LayerCase):
    def test_own_and_shared_things(self):
        for row, texts in [
            ("cell x 2, log l, choice", ["ended ; x 1 ; l a", "ended ; x 0 ; l b", "over ; x 1 ; l -"]),
            ("log l, choice, cell x 2", ["ended ; x 1 ; l a", "ended ; x 0 ; l b", "over ; l -"]),
            ("cell x 2, choice, log l", ["ended ; x 1 ; l a", "ended ; x 0 ; l b", "over ; x 1"]),
            ("choice, log l, cell x 2", ["ended ; x 1 ; l a", "ended ; x 0 ; l b", "over"]),
        ]:
            talk = talk_about("choose ( put x 1 ; say l a ) or ( say l b )", row, {"x": 0})
            answers = [{"x": value} if row.index("cell") < row.index("choice") else {} for value in (0, 1)]
            self.assertEqual([str(event) for event in [talk[0], *talk.run(*answers)]], texts, row)

    def test_words_since_the_start_and_since_the_event_ahead(self):
        text = "say l a ; choose ( say l b ) or ( say l c ; choose ( say l d ) or ( skip ) )"
        own = talk_about(text, "choice, log l", {})
        self.assertEqual([str(event) for event in [own[0], *own.run({}, {}, {})]], ["ended ; l a b", "ended ; l a c d", "ended ; l a c", "over"])
        shared = talk_about(text, "log l, choice", {})
        self.assertEqual([str(event) for event in [shared[0], *shared.run({}, {}, {})]], [
            "ended ; l a b", "ended ; l c d", "ended ; l -", "over ; l -"
        ])

    def test_words_that_are_told_by_over(self):
        talk = talk_about("choose ( say l a ) or ( say l b ; none )", "log l, choice", {})
        self.assertEqual([str(talk), str(talk.reply({}))], ["ended ; l a", "over ; l b"])
        self.assertEqual(str(talk_about("say l b ; none", "log l, choice", {})), "over ; l b")
        self.assertEqual(str(talk_about("say l b ; none", "choice, log l", {})), "over")

    def test_words_that_are_taken_back(self):
        for text, row, told in [
            ("say l a ; catch f ( say l b ; fail f ) else ( say l c )", "choice, failure f, log l", "ended ; l a c"),
            ("say l a ; catch f ( say l b ; fail f ) else ( say l c )", "choice, log l, failure f", "ended ; l a b c"),
            ("say l a ; catch f ( say l b ; fail f ) else ( say l c )", "failure f, log l, choice", "ended ; l a c"),
            ("say l a ; catch f ( say l b ; fail f ) else ( say l c )", "log l, failure f, choice", "ended ; l a b c"),
            ("say l a ; fail f", "choice, failure f, log l", "failed f"), ("say l a ; fail f", "choice, log l, failure f", "failed f ; l a"),
            ("say l a ; fail f", "failure f, log l, choice", "broke f"), ("say l a ; fail f", "log l, failure f, choice", "broke f ; l a"),
        ]:
            self.assertEqual(str(talk_about(text, row, {})), told)

    def test_stop_and_failures_end_the_talk(self):
        for text, row, told, over in [
            ("choose ( stop ) or ( skip )", "cell x 2, choice", "stopped ; x 1", True),
            ("choose ( fail f ) or ( skip )", "failure f, cell x 2, choice", "broke f", True),
            ("choose ( fail f ) or ( skip )", "cell x 2, choice, failure f", "failed f ; x 1", False),
            ("choose ( none ) or ( none )", "cell x 2, choice", "over ; x 1", True),
            ("catch f ( choose ( skip ) or ( stop ) ) else ( skip )", "failure f, cell x 2, choice", "stopped ; x 1", True),
        ]:
            talk = talk_about(text, row, {"x": 1})
            self.assertEqual([str(talk), talk.is_over], [told, over])

    def test_replies_are_seen(self):
        text = "choose ( put x 1 ) or ( if x = 0 ( put y 1 ) else ( put y 2 ) )"
        for value in (0, 1):
            talk = talk_about(text, "cell x 2, choice, cell y 3", {"x": 0, "y": 0})
            self.assertEqual(str(talk.reply({"x": value})), f"ended ; x {value} ; y {value + 1}")

    def test_a_reply_sets_cells_that_the_program_does_not_name(self):
        talk = talk_about("choose ( skip ) or ( skip )", "cell x 2, cell z 4, choice", {"z": 3})
        self.assertEqual([talk.asked, str(talk), str(talk.reply({"z": 1})), str(talk.reply({"z": 2}))], [
            ("z",), "ended ; z 3", "ended ; z 1", "over ; z 2"
        ])

    def test_inner_failures_within_a_gathering_catch_wait(self):
        text = "catch g ( catch f ( choose ( fail g ) or ( put x 1 ) ) else ( skip ) ; say l b ) else ( copy y x )"
        talk = talk_about(text, "cell x 2, cell y 2, failure f, choice, failure g, log l", {"x": 0, "y": 0})
        self.assertEqual([str(event) for event in [talk[0], *talk.run({"x": 0, "y": 1}, {"x": 1, "y": 0})]], [
            "ended ; x 1 ; y 1 ; l -", "ended ; x 0 ; y 1 ; l b", "over ; x 1 ; y 0"
        ])

    def agrees(self, program, stack, start, logs, dice):
        """A talk with chance replies goes as the second model tells, until it is over or refused."""
        asked = values_of(stack, shared_of(stack, start))
        answers = []
        try:
            talk = Talk(program, stack, start, *logs)
        except TooMany as error:
            self.assertEqual(talk_of(program, stack, start, logs, [])[2], (error.what, error.most))
            return
        while True:
            events, over, refused = talk_of(program, stack, start, logs, answers)
            self.assertTrue(same(tuple(events), talk.events), f"{program} under {stack} from {start}: {talk}")
            self.assertEqual([talk.is_over, refused], [over, None])
            if over:
                self.refused(BadTalk("over"), talk.reply, dice.choice(asked))
                return
            answers.append(dice.choice(asked))
            try:
                self.same(talk.reply(answers[-1]), talk_of(program, stack, start, logs, answers)[0][-1])
            except TooMany as error:
                self.assertEqual(talk_of(program, stack, start, logs, answers)[2], (error.what, error.most))
                self.assertEqual(len(talk), len(answers))
                return

    def test_many_programs_under_many_stacks(self):
        dice = random.Random(21)
        for turn in range(1200):
            program = random_program(dice, 3)
            for stack in dice.sample(ORDERS, 3):
                cells = set(program.cells) | set(dice.sample(["x", "y"], dice.randrange(3)))
                self.agrees(program, stack, dice.choice(values_of(stack, cells)), dice.sample(["l", "l"], dice.randrange(3)), dice)

    def test_some_programs_under_all_orders(self):
        dice = random.Random(22)
        for text in [
            "choose ( put x 1 ; say l a ) or ( copy y x ) ; say l b", "choose ( fail f ) or ( say l a ; fail g ) ; put y 2",
            "catch f ( choose ( put x 1 ; fail f ) or ( say l a ) ) else ( put y 1 ) ; say l b",
            "choose ( say l a ; fail g ) or ( catch g ( say l b ; put x 1 ; choose ( fail g ) or ( fail f ) ) else ( put y 2 ) )",
            "choose ( say l a ) or ( catch f ( choose ( stop ) or ( put x 1 ) ) else ( skip ) ) ; put y 1",
        ]:
            for stack in ORDERS:
                self.agrees(Program.read(text), stack, {"x": dice.randrange(2), "y": dice.randrange(3)}, ["l"], dice)

    def test_without_a_choice(self):
        dice = random.Random(23)
        without = [Stack(*row) for row in itertools.permutations(HANDLERS - "choice")]
        tried = 0
        while tried < 200:
            program = random_program(dice, 3)
            if not program.chooses:
                tried += 1
                self.agrees(program, dice.choice(without), {"x": dice.randrange(2), "y": dice.randrange(3)}, [], dice)

    def test_events_of_a_talk_are_the_ends_of_a_run(self):
        # Without shared things, a talk tells the ends one after another.
        dice = random.Random(24)
        for turn in range(200):
            program = random_program(dice, 2)
            stack = Stack.read("choice, cell x 2, cell y 3, log l, failure f, failure g")
            talk = Talk(program, stack, {"x": 0, "y": 0}, "l")
            while not talk.is_over:
                talk.reply({})
            told = [str(event).replace("ended", "done").replace("stopped", "done") for event in talk if type(event) is not Over]
            self.assertEqual(" / ".join(told) or "-", ends_text(ends(program, stack)))


class LimitsTest(LayerCase):
    def test_ends_are_counted_for_the_whole_talk(self):
        talk = Talk(both(6), Stack.read("choice"), {})
        self.assertEqual(len(talk.run(*[{}] * 63)), 63)
        self.assertEqual(str(talk.reply({})), "over")
        self.assertEqual([len(talk), talk.is_over], [65, True])
        talk = Talk(both(7), Stack.read("choice"), {})
        self.assertEqual(len(talk.run(*[{}] * 63)), 63)
        for turn in range(2):
            self.refused(TooMany("ends", 64), talk.reply, {})
            self.assertEqual([len(talk), talk.is_over], [64, False])

    def test_results_are_counted_too(self):
        program = Program.read("catch f ( choose ( skip ) or ( skip ) ) else ( skip )") + both(5)
        talk = Talk(program, Stack.read("failure f, choice"), {})
        self.assertEqual(len(talk.run(*[{}] * 61)), 61)
        self.refused(TooMany("ends", 64), talk.reply, {})
        program = both(4) + Program.read("catch f ( choose ( skip ) or ( skip ) ) else ( skip )")
        talk = Talk(program, Stack.read("failure f, choice"), {})
        self.assertEqual(str(talk.run(*[{}] * 32)[-1]), "over")

    def test_stop_and_broke_are_counted_over_is_not(self):
        stack = Stack.read("failure f, cell x 2, choice")
        ask = " ; if x = 1 ( stop ) else ( skip )"
        for program, last in [(ask, "stopped ; x 1"), (ask.replace("stop", "fail f"), "broke f")]:
            wide = both(6) + Program.read(program[3:])
            talk = Talk(wide, stack, {"x": 0})
            talk.run(*[{"x": 0}] * 62)
            self.assertEqual(str(talk.tried(lambda same: same.reply({"x": 1}))), last)
            talk = Talk(both(7) + Program.read(program[3:]), stack, {"x": 0})
            talk.run(*[{"x": 0}] * 63)
            self.refused(TooMany("ends", 64), talk.reply, {"x": 1})

    def test_steps_are_counted_for_the_whole_talk(self):
        # Ahead of each event two branches are given up behind many deeds: 83 deeds, and the chooses.
        puts = " ; ".join(["put x 1"] * 40)
        program = both(6) + Program.read(f"choose ( choose ( skip ) or ( skip ) ; {puts} ; none ) or ( skip )")
        for row, answer in [("choice, cell x 2", {}), ("cell x 2, choice", {"x": 0})]:
            talk = Talk(program, Stack.read(row), {"x": 0})
            refused = None
            while refused is None:
                before = talk.twin()
                try:
                    talk.reply(answer)
                except TooMany as error:
                    refused = (error.what, error.most)
            self.assertEqual([refused, talk], [("steps", 4000), before])
            events, over, expected = talk_of(program, Stack.read(row), {"x": 0}, [], [answer] * 64)
            self.assertEqual([tuple(events), expected], [talk.events, refused])
            self.assertEqual(len(events), 47)

    def test_words_of_a_shared_log_are_counted_since_the_event_ahead(self):
        for row in ["log l, choice", "choice, log l"]:
            talk = Talk(both(3) + says(50), Stack.read(row), {})
            self.assertEqual([len(talk.run(*[{}] * 8)), talk.is_over], [8, True])
        # Branches that are given up tell no event: four of them fill a shared log.
        give_up = says(50) + Leave()
        for many, row in [(2, "log l, choice"), (3, "choice, log l")]:
            self.assertIs(Talk(both(many) + give_up, Stack.read(row), {}).is_over, True)
        self.refused(TooMany("words", 200), Talk, both(3) + give_up, Stack.read("log l, choice"), {})
        talk = Talk(Program.read("choose ( say l b ) or ( choose ( skip ) or ( skip ) ; choose ( skip ) or ( skip ) ; " + str(give_up) + " )"), Stack.read("log l, choice"), {})
        self.assertEqual([str(talk), len(talk.reply({}).logs["l"])], ["ended ; l b", 200])

    def test_a_talk_that_is_refused_stays_as_it_is(self):
        program = Program.read("choose ( skip ) or ( if x = 1 ( put x 1 ) else ( skip ) )") + both(7)
        stack = Stack.read("cell x 2, choice")
        talk = Talk(program, stack, {"x": 0})
        talk.run(*[{"x": 0}] * 63)
        twin = talk.twin()
        self.refused(TooMany("ends", 64), talk.reply, {"x": 1})
        self.refused(TooMany("ends", 64), talk, {"x": 1})
        self.refused(TooMany("ends", 64), talk.run, {"x": 1})
        self.assertEqual([talk == twin, len(talk), str(talk) == str(twin), talk.replies], [True, 64, True, ({"x": 0},) * 63])


class MethodsTest(LayerCase):
    TEXT, ROW, START = "choose ( put x 1 ; say l a ) or ( choose ( copy y x ) or ( fail g ) )", "cell x 2, choice, failure g, cell y 3, log l", {"x": 0, "y": 2}

    def new(self):
        return talk_about(self.TEXT, self.ROW, self.START)

    def test_all_ways_to_reply(self):
        one, other, third, fourth = self.new(), self.new(), self.new(), self.new()
        kept = third
        for values in [{"x": 1}, {"x": 0}, {"x": 1}]:
            event = one.reply(values)
            self.same(other(values), event)
            third += values
            self.assertIs(third, kept)
            self.same(third[-1], event)
            self.same(fourth.run(values), [event])
        self.assertEqual([one, one, one], [other, third, fourth])
        self.assertTrue(one.is_over)
        self.same(self.new().reply(values={"x": 1}), other[1])
        self.same(self.new()(values={"x": 1}), other[1])

    def test_wrong_replies_in_order(self):
        for work in [lambda talk, value: talk.reply(value), lambda talk, value: talk(value), lambda talk, value: talk.run(value), add_in_place]:
            talk = self.new()
            for value in values(lambda value: isinstance(value, dict)):
                self.refused(BadTalk("reply"), work, talk, value)
            for value in [{}, {"x": 2}, {"x": -1}, {"x": True}, {"x": "1"}, {"x": 0, "y": 0}, {"y": 0}, {"q": 0}, {0: 0}, {"x": None}, {"x": 0, 1: 0}]:
                self.refused(BadTalk("reply"), work, talk, value)
            self.assertEqual([talk, len(talk)], [self.new(), 1])
            talk.run(*[{"x": 0}] * 3)
            for value in [*values(), {"x": 0}]:
                self.refused(BadTalk("over"), work, talk, value)

    def test_run(self):
        talk = self.new()
        self.same([type(talk.run()), len(talk)], [list, 1])
        events = talk.run({"x": 1}, {"x": 0})
        self.same(events, list(talk)[1:])
        for row, part in [(({"x": 0}, {"x": 0}), "over"), (({"x": 2},), "reply"), (({"x": 0}, None), "over"), ((None, {"x": 0}), "reply")]:
            before, told = talk.twin(), str(talk)
            self.refused(BadTalk(part), talk.run, *row)
            self.assertEqual([talk, str(talk), talk.replies, len(talk)], [before, told, ({"x": 1}, {"x": 0}), 3])
        events.append(1)
        self.assertEqual(len(talk), 3)

    def test_undo(self):
        talk = self.new()
        self.assertIs(talk.undo(), False)
        talk.run({"x": 1}, {"x": 0}, {"x": 1})
        for left in [3, 2, 1]:
            self.assertIs(talk.undo(), True)
            self.assertEqual([len(talk), len(talk.events), len(talk.replies), talk.is_over], [left, left, left - 1, False])
        self.assertIs(talk.undo(), False)
        self.assertEqual([talk, str(talk)], [self.new(), str(self.new())])
        self.assertEqual(str(talk.reply({"x": 0})), "ended ; x 0 ; y 0 ; l -")

    def test_items_and_slices(self):
        talk = self.new()
        talk.run({"x": 1}, {"x": 0}, {"x": 1})
        row = talk.events
        self.same(list(talk), list(row))
        self.same([type(talk[:]), talk[:]], [tuple, row])
        for k in range(-4, 4):
            self.same(talk[k], row[k])
        for k in [4, -5, 10 ** 30]:
            with self.assertRaises(IndexError):
                talk[k]
        for parts in itertools.product([None, 0, 1, 2, 5, -1, -3, -9], [None, 0, 2, 9, -1], [None, 1, 2, -1, -2]):
            self.same(talk[slice(*parts)], row[slice(*parts)])
        self.assertEqual([len(talk), bool(talk)], [4, True])

    def test_in(self):
        talk = self.new()
        talk.run({"x": 1})
        for event in talk:
            self.assertIs(event in talk, True)
        for value in values() + [Ended({}, {}), Over({"x": 1}, {}), Stopped({"x": 1, "y": 2}, {"l": ("a",)}), talk, str(talk[0])]:
            self.assertIs(value in talk, False)
        self.assertIs(Ended({"x": 1, "y": 2}, {"l": ("a",)}) in talk, True)

    def test_twin(self):
        talk = self.new()
        talk.run({"x": 1}, {"x": 0})
        twin = talk.twin()
        self.assertEqual([twin, str(twin), twin.replies, twin.asked, twin.start], [talk, str(talk), talk.replies, talk.asked, talk.start])
        twin.reply({"x": 1})
        self.assertEqual([len(twin), len(talk), twin == talk], [4, 3, False])
        talk.reply({"x": 1})
        self.assertTrue(twin == talk)
        self.assertEqual([twin.undo(), twin.undo(), twin.undo(), twin.undo()], [True, True, True, False])
        self.assertEqual([twin, len(talk)], [self.new(), 4])

    def test_trials(self):
        talk = self.new()
        talk.reply({"x": 1})
        before = talk.twin()
        with talk.trial() as same_talk:
            self.assertIs(same_talk, talk)
            talk.run({"x": 0}, {"x": 0})
        self.assertEqual([talk, str(talk), talk.events, talk.replies, talk.is_over], [before, str(before), before.events, before.replies, False])
        with talk.trial():
            talk.undo()
            talk.run({"x": 0}, {"x": 1}, {"x": 1})
        self.assertEqual([talk, str(talk)], [before, str(before)])
        self.assertEqual([talk.undo(), talk], [True, self.new()])

    def test_trials_that_an_error_leaves(self):
        talk = self.new()
        before = talk.twin()
        for error in [BadName("x"), BadTalk("over"), KeyError(1), StopIteration()]:
            with self.assertRaises(type(error)) as caught:
                with talk.trial():
                    talk.reply({"x": 0})
                    raise error
            self.assertIs(caught.exception, error)
            self.assertEqual([talk, len(talk)], [before, 1])
        self.refused(BadTalk("reply"), talk.tried, lambda same_talk: same_talk.run({"x": 0}) and same_talk.reply(5))
        self.assertEqual([talk, len(talk)], [before, 1])

    def test_trials_within_one_another(self):
        talk = self.new()
        with talk.trial():
            talk.reply({"x": 0})
            inner = talk.twin()
            with talk.trial() as second:
                second.undo()
                second.run({"x": 1}, {"x": 1})
                with second.trial() as third:
                    third.undo()
                    third.undo()
                self.assertEqual(len(talk), 3)
            self.assertEqual([talk, str(talk)], [inner, str(inner)])
        self.assertEqual([talk, str(talk)], [self.new(), str(self.new())])

    def test_a_trial_begins_with_its_block(self):
        talk = self.new()
        trial = talk.trial()
        talk.reply({"x": 0})
        for turn in range(2):
            with trial:
                talk.reply({"x": 1})
                talk.undo()
                talk.undo()
            self.assertEqual([len(talk), talk.replies], [2, ({"x": 0},)])
        talk.undo()
        with trial:
            talk.run({"x": 1}, {"x": 1})
        self.assertEqual(talk, self.new())

    def test_tried(self):
        talk = self.new()
        self.assertEqual(talk.tried(lambda same_talk: [str(event) for event in same_talk.run({"x": 0}, {"x": 1})]), ["ended ; x 0 ; y 0 ; l -", "failed g ; x 1"])
        self.assertEqual([talk, talk.tried(work=len), talk.tried(lambda same_talk: same_talk is talk)], [self.new(), 1, True])

    def test_equality(self):
        self.only_equal_to_itself(self.new)
        one = self.new()
        for other in [
            talk_about(self.TEXT, self.ROW.replace("y 3", "y 4"), self.START), talk_about(self.TEXT, self.ROW + ", log m", self.START),
            talk_about(self.TEXT, self.ROW, {"x": 1, "y": 2}), talk_about("skip", self.ROW, self.START, "l"),
            talk_about(self.TEXT, "cell x 2, choice, failure g, log l, cell y 3", self.START),
        ]:
            self.assertFalse(one == other)
            self.assertTrue(one != other)
        wide, narrow = talk_about("skip", self.ROW, {"x": 0}), talk_about("skip", self.ROW, {"x": 0}, "l")
        self.assertFalse(wide == narrow)
        self.assertFalse(talk_about("skip", self.ROW, {"x": 0}) == talk_about("skip", self.ROW, {}))
        self.assertTrue(narrow == talk_about("skip", self.ROW, {"x": 0}, "l", "l"))
        self.assertTrue(one == talk_about(self.TEXT, self.ROW, {"y": 2, "x": 0}, "l"))
        one.reply({"x": 0})
        other = self.new()
        self.assertFalse(one == other)
        other.reply({"x": 1})
        self.assertFalse(one == other)
        other.undo()
        other.reply({"x": 0})
        self.assertTrue(one == other)

    def test_text(self):
        talk = self.new()
        talk.run({"x": 1}, {"x": 0}, {"x": 1})
        self.assertEqual(str(talk), "ended ; x 1 ; y 2 ; l a / ended ; x 1 ; y 1 ; l - / failed g ; x 0 / over ; x 1")

    def test_what_is_done_to_its_dicts_changes_no_talk(self):
        talk, other = self.new(), self.new()
        for one in [talk, other]:
            one.reply({"x": 0})
        told = str(talk)
        talk.start["x"] = 1
        talk.start.clear()
        talk.replies[0]["x"] = 1
        for event in [*talk.events, *talk, talk[0], talk[-1], *talk[:]]:
            event.cells["x"] = 7
            event.logs.clear()
        self.assertTrue(talk == other)
        self.assertTrue(talk.twin() == other)
        self.assertEqual([str(talk), str(talk.twin())], [told, told])
        self.same(talk[0], other[0])
        self.same(talk.reply({"x": 1}), other.reply({"x": 1}))
        self.assertTrue(talk == other)
        self.same([talk.events, talk.replies, talk[:], list(talk)], [other.events, other.replies, other[:], list(other)])

    def test_what_is_returned_belongs_to_the_caller(self):
        talk, other = self.new(), self.new()
        event = talk.reply({"x": 0})
        event.cells["x"] = 9
        for event in talk.run({"x": 1}):
            event.cells.clear()
        other.run({"x": 0}, {"x": 1})
        self.same(talk.events, other.events)
        self.same(talk[:], other[:])


def add_in_place(talk, value):
    talk += value


class StartsTest(LayerCase):
    STACK = Stack.read("cell x 2, log l, cell z 4, choice, cell y 3, failure f")

    def test_order(self):
        for cells in [(), ("x",), ("y",), ("x", "y"), ("y", "x"), ("z", "x", "y"), ("x", "x"), ("y", "x", "y", "x"), ("z", "y")]:
            self.same(list(starts(self.STACK, *cells)), values_of(self.STACK, cells))
            self.same(list(replies(self.STACK, *cells)), values_of(self.STACK, shared_of(self.STACK, cells)))
        self.same(list(starts(self.STACK)), [{}])
        self.same(list(replies(self.STACK, "y")), [{}])
        self.same(list(replies(Stack.read("cell x 2"), "x")), [{}])
        self.same(list(starts(Stack.read("cell x 2"), "x")), [{"x": 0}, {"x": 1}])
        self.same(list(starts(stack=self.STACK)), [{}])
        self.same(list(replies(stack=self.STACK)), [{}])

    def test_dicts_are_new(self):
        for row in starts(self.STACK, "x", "y"):
            row["x"] = 7
            row.clear()
        self.same(list(starts(self.STACK, "x")), [{"x": 0}, {"x": 1}])

    def test_wrong_values_in_order(self):
        for work in [starts, replies]:
            for value in values(lambda value: isinstance(value, Stack)):
                self.refused(BadStack("stack"), lambda: next(work(value)))
                self.refused(BadStack("stack"), lambda: next(work(value, "x", None)))
            for value in [*values(lambda value: value == "x"), "l", "f", "choice", "q"]:
                self.refused(BadTalk("cells"), lambda: next(work(self.STACK, value)))
                self.refused(BadTalk("cells"), lambda: next(work(self.STACK, "x", value, "y")))


class KindsTest(LayerCase):
    def test_values_in_events_are_integers(self):
        talk = talk_about("choose ( copy y x ) or ( skip )", "cell x 2, cell y 3, choice, log l", {"x": 1, "y": 0}, "l")
        talk.run({"x": 0, "y": 2}, {"x": 1, "y": 1})
        for event in talk:
            self.assertTrue(all(is_whole(value) for value in event.cells.values()))
            self.assertTrue(all(type(words) is tuple for words in event.logs.values()))
            self.assertEqual([list(event.cells), list(event.logs)], [sorted(event.cells), sorted(event.logs)])
