"""Papers that show that two programs are alike, or not: right ones, others than alike tells, and bent ones."""

import itertools
import random
from unittest import mock

from layerseen.errors import BadProgram, BadStack, TooMany, Unfit
from layerseen.likeness import Apart, Same, alike
from layerseen.look_likeness import shows_alike
from layerseen.programs import Program
from layerseen.stacks import Stack
from layerseen.tables import Table, table
from layerseen.talks import Broke, Ended, Failed, Over, Stopped, Talk
from tests.oracle_talk import values_of
from tests.support import LayerCase, orders, values
from tests.test_likeness import FEW, OWN, POOL, SHARED, talks_of, things_of, told_key
from tests.test_player_orders import random_program
from tests.test_tables import just_so_many, small_enough
from tests.test_talks import ORDERS, both, says

SKIP, NONE = Program(), Program.read("none")


def all_partings(one, other, stack):
    """All Aparts of two programs, by going through all talks of both."""
    cells, logs = things_of(one, other)
    told = {
        told_key(start, answers[:many]): events[:many + 1]
        for start, answers, events in talks_of(other, stack, cells, logs) for many in range(len(events))
    }
    found = {}
    for start, answers, events in talks_of(one, stack, cells, logs):
        for many in range(len(events)):
            key = told_key(start, answers[:many])
            if key not in told or told[key][:-1] != events[:many]:
                break
            if told[key][-1] != events[many]:
                found[key] = Apart(start, answers[:many], events[:many + 1], told[key])
    return list(found.values())


def with_rows(paper, rows):
    return Table(paper.sizes, paper.replied, paper.logs, rows)


def doubled(paper, dice):
    """The table with each row but the last one told twice, and either one led to."""
    rows = []
    for row in paper.rows:
        for turn in range(2):
            rows.append(tuple((event, None if number is None else 2 * number + dice.randrange(2)) for event, number in row))
    return with_rows(paper, tuple(rows[:-1]))


def unfolded(paper):
    """The table in which no row is led to twice."""
    rows = []

    def unfold(number):
        row = tuple((event, None if behind is None else unfold(behind)) for event, behind in paper.rows[number])
        rows.append(row)
        return len(rows) - 1

    unfold(len(paper.rows) - 1)
    return with_rows(paper, tuple(rows))


def shuffled(paper, dice):
    """The table with its rows in another order that still leads to earlier ones."""
    left, order = list(range(len(paper.rows) - 1)), []
    while left:
        free = [at for at in left if all(number is None or number in order for event, number in paper.rows[at])]
        order.append(dice.choice(free))
        left.remove(order[-1])
    order.append(len(paper.rows) - 1)
    places = {None: None, **{old: new for new, old in enumerate(order)}}
    return with_rows(paper, tuple(tuple((event, places[number]) for event, number in paper.rows[at]) for at in order))


def put_in(row, at, item):
    return (*row[:at], item, *row[at + 1:])


def bent_pairs(pair, at):
    """Pairs that tell something else than a pair of the row at an index."""
    event, number = pair
    numbers = [at, at + 1, -1, True, False, "0", (0,), 0.0] + [None] * (number is not None) + [0] * (number is None)
    return [
        list(pair), (event,), (*pair, None), event, None, (None, number), (str(event), number),
        *[(event, other) for other in numbers], *[(other, number) for other in bent_events(event)],
    ]


def bent_events(event):
    """Events that are unlike an event, or of other kinds, that tell of other things."""
    made, parts = type(event), [*vars(event).values()]
    cells, logs = event.cells, event.logs
    found = [
        other(*parts[-2:]) for other in [Ended, Stopped, Over] if other is not made
    ] + [other("f", cells, logs) for other in [Failed, Broke] if other is not made]
    changed = [{**cells, "q": 0}, list(cells.items()), None]
    for name in cells:
        changed += [{**cells, name: other} for other in [cells[name] + 1, cells[name] - 1, bool(cells[name]), str(cells[name]), None]]
        changed.append({other: cells[other] for other in cells if other != name})
    told = [{**logs, "q": ()}, (), None]
    for name in logs:
        told += [{**logs, name: other} for other in [(*logs[name], "z"), list(logs[name]), " ".join(logs[name]), None]]
        told.append({other: logs[other] for other in logs if other != name})
    found += [made(*parts[:-2], other, logs) for other in changed] + [made(*parts[:-2], cells, other) for other in told]
    if len(parts) == 3:
        found += [made(other, cells, logs) for other in ["g", None, 0, ("f",), ""]]
    return found


class SameTest(LayerCase):
    def test_papers_of_alike(self):
        dice = random.Random(61)
        stacks = orders(*FEW)
        seen = []
        for one, other in itertools.product(POOL, repeat=2):
            for stack in dice.sample(stacks, 2):
                found = alike(one, other, stack)
                seen.append(bool(found))
                self.assertIs(shows_alike(one, other, stack, found), True)
                self.assertIs(shows_alike(one=one, other=other, stack=stack, value=found), True)
                self.assertIs(shows_alike(other, one, stack, found), bool(found))
                cells, logs = things_of(one, other)
                for program in [one, other]:
                    told = Same(table(program, stack, *cells, *logs))
                    self.assertIs(shows_alike(one, other, stack, told), bool(found))
                if not found:
                    turned = Apart(found.start, found.replies, found.others, found.events)
                    self.assertIs(shows_alike(other, one, stack, turned), True)
                    self.assertIs(shows_alike(one, other, stack, turned), False)
        self.assertGreater(seen.count(True), 100)
        self.assertGreater(seen.count(False), 1000)

    def test_random_programs(self):
        dice = random.Random(62)
        tried = 0
        while tried < 200:
            one, stack = random_program(dice, 2), dice.choice(ORDERS)
            other = one.without(dice.choice(list(one.walk())))
            cells, logs = things_of(one, other)
            if small_enough(one, stack, cells) and small_enough(other, stack, cells):
                tried += 1
                found = alike(one, other, stack)
                self.assertIs(shows_alike(one, other, stack, found), True)
                told = Same(table(one, stack, *cells, *logs))
                self.assertIs(shows_alike(one, other, stack, told), bool(found))

    def pairs_alike(self):
        """Programs that are alike under a stack, with unlike texts, and their table."""
        for one, other, row in [
            ("put x 1 ; none", "none", "choice, cell x 2"), ("put x 1 ; none", "put x 0 ; none", "choice, log l, cell x 3"),
            ("put x 1 ; put x 0", "put x 0", "cell x 2, failure f"), ("put x 1 ; say l a", "say l a ; put x 1", "cell x 2, log l, choice"),
            ("put x 1 ; choose ( say l a ) or ( fail f )", "choose ( put x 1 ; say l a ) or ( put x 1 ; fail f )", "choice, cell x 2, failure f, log l"),
            ("choose ( put x 1 ) or ( put x 1 ; stop )", "choose ( put x 1 ; put x 1 ) or ( put x 0 ; put x 1 ; stop )", "cell x 2, choice"),
            ("choose ( skip ) or ( if x = 1 ( fail f ) else ( skip ) )", "choose ( skip ) or ( if x = 0 ( skip ) else ( fail f ) )", "failure f, cell x 2, choice"),
        ]:
            stack = Stack.read(row)
            found = alike(Program.read(one), Program.read(other), stack)
            self.assertTrue(found)
            yield Program.read(one), Program.read(other), stack, found.table

    def test_tables_that_are_not_least(self):
        dice = random.Random(63)
        for one, other, stack, paper in self.pairs_alike():
            wide = len(values_of(stack, paper.replied))
            unused = (((Over({}, {}), None),) * wide, ((Ended({"x": 1}, {}), None),) * wide)
            for rows in [
                doubled(paper, dice), unfolded(paper), shuffled(paper, dice), doubled(doubled(paper, dice), dice),
                *[with_rows(paper, paper.rows[:-1] + (row,) + paper.rows[-1:]) for row in [*paper.rows[:-1], *unused]],
            ]:
                self.assertIs(shows_alike(one, other, stack, Same(rows)), True)
                self.assertIs(shows_alike(other, one, stack, Same(rows)), True)

    def test_each_pair_bent(self):
        for one, other, stack, paper in self.pairs_alike():
            for at, row in enumerate(paper.rows):
                for place, pair in enumerate(row):
                    for bent in bent_pairs(pair, at):
                        rows = put_in(paper.rows, at, put_in(row, place, bent))
                        self.assertIs(shows_alike(one, other, stack, Same(with_rows(paper, rows))), False, f"{bent!r} for {pair!r}")

    def test_rows_that_are_none(self):
        for one, other, stack, paper in self.pairs_alike():
            rows, wide = paper.rows, len(values_of(stack, paper.replied))
            for at, row in enumerate(rows):
                for bent in [list(row), row[:-1], (*row, row[-1]), (), None, str(row), row[0]]:
                    self.assertIs(shows_alike(one, other, stack, Same(with_rows(paper, put_in(rows, at, bent)))), False)
                # Also one that is not led to.
                for bent in [(), None, list(row), row[0], ((None, None),) * wide, ((Over({}, {}), at + 1),) * wide]:
                    self.assertIs(shows_alike(one, other, stack, Same(with_rows(paper, rows[:at] + (bent,) + rows[at:]))), False)
            for bent in [list(rows), rows[:-1], rows[1:], (), None, rows[0], len(rows), *[(*rows, rows[-1])] * (wide != len(rows[-1]))]:
                self.assertIs(shows_alike(one, other, stack, Same(with_rows(paper, bent))), False)
            if len(rows) > 1:
                self.assertIs(shows_alike(one, other, stack, Same(with_rows(paper, rows[::-1]))), False)

    def test_other_things(self):
        for one, other, stack, paper in self.pairs_alike():
            for sizes in [paper.sizes[1:], (*paper.sizes, ("q", 2)), list(paper.sizes), None, (("x", 4),), (["x", 2],), ("x", 2), (("x", True),)]:
                if sizes != paper.sizes:
                    bent = Table(sizes, paper.replied, paper.logs, paper.rows)
                    self.assertIs(shows_alike(one, other, stack, Same(bent)), False)
            for replied in [paper.replied[1:], (*paper.replied, "q"), list(paper.replied), None, "x"]:
                if replied != paper.replied:
                    bent = Table(paper.sizes, replied, paper.logs, paper.rows)
                    self.assertIs(shows_alike(one, other, stack, Same(bent)), False)
            for logs in [paper.logs[1:], (*paper.logs, "q"), list(paper.logs), None, "l"]:
                if logs != paper.logs:
                    bent = Table(paper.sizes, paper.replied, logs, paper.rows)
                    self.assertIs(shows_alike(one, other, stack, Same(bent)), False)

    def test_names_that_are_too_few_or_too_many(self):
        stack = Stack.read("cell x 2, cell y 2, log l, choice, log m")
        one, other = Program.read("put x 1"), Program.read("put x 0 ; put x 1 ; if y = 1 ( skip ) else ( skip ) ; if y = 0 ( say l a ) else ( say l a )")
        second = Program.read("put x 1 ; say l a")
        for names, right in [(["y", "l"], True), ([], False), (["y"], True), (["l"], False), (["y", "l", "m"], False)]:
            self.assertIs(shows_alike(second, other, stack, Same(table(second, stack, *names))), right)
            self.assertIs(shows_alike(second, second + other, stack, Same(table(second, stack, *names))), False)
            self.assertIs(shows_alike(one, one, stack, Same(table(one, stack, *names))), not names)
        self.assertIs(shows_alike(one, second, stack, Same(table(one, stack, "l"))), False)

    def test_the_table_of_another_program_or_stack(self):
        for one, other, stack, paper in self.pairs_alike():
            for program in POOL:
                if stack.takes(program) and set(program.cells) == set(one.cells) and set(program.logs) == set(one.logs):
                    told = table(program, stack)
                    self.assertIs(shows_alike(one, other, stack, Same(told)), told == paper)
        put = Program.read("put x 1")
        self.assertIs(shows_alike(put, put, SHARED, Same(table(put, OWN))), False)
        self.assertIs(shows_alike(put, put, OWN, Same(table(put, Stack.read("choice, cell x 3")))), False)
        self.assertIs(shows_alike(put, put, Stack.read("cell x 2"), Same(table(put, OWN))), True)


class ApartTest(LayerCase):
    def test_all_talks_that_part(self):
        dice = random.Random(64)
        stacks = orders(*FEW)
        many = 0
        for one, other in itertools.product(POOL, repeat=2):
            stack = dice.choice(stacks)
            for found in all_partings(one, other, stack):
                many += 1
                self.assertIs(shows_alike(one, other, stack, found), True)
                self.assertIs(shows_alike(other, one, stack, found), False)
        self.assertGreater(many, 2000)

    def pairs_apart(self):
        for one, other, row in [
            ("put x 1 ; none", "none", "cell x 2, choice"), ("put x 1", "put x 2", "cell x 3"), ("say l a", "skip", "log l"),
            ("choose ( put x 1 ) or ( put x 0 )", "choose ( put x 1 ) or ( skip )", "cell x 2, choice"),
            ("choose ( put x 1 ) or ( put x 0 )", "choose ( put x 1 ) or ( skip )", "choice, cell x 2"),
            ("choose ( fail f ) or ( choose ( say l a ) or ( put x 1 ) )", "choose ( fail f ) or ( choose ( say l a ) or ( put y 1 ) )", "cell y 2, choice, log l, failure f, cell x 2"),
            ("choose ( skip ) or ( fail f )", "choose ( skip ) or ( stop )", "failure f, choice"),
        ]:
            one, other, stack = Program.read(one), Program.read(other), Stack.read(row)
            yield one, other, stack, all_partings(one, other, stack)

    def test_each_part_bent(self):
        for one, other, stack, papers in self.pairs_apart():
            for paper in [papers[0], papers[-1]]:
                self.assertIs(shows_alike(one, other, stack, paper), True)
                parts = [paper.start, paper.replies, paper.events, paper.others]
                for at, bent in [
                    *[(0, bent) for bent in self.bent_values(paper.start, stack)], *[(1, bent) for bent in self.bent_replies(paper, stack)],
                    *[(2, bent) for bent in self.bent_rows(paper.events)], *[(3, bent) for bent in self.bent_rows(paper.others)],
                ]:
                    self.assertIs(shows_alike(one, other, stack, Apart(*put_in(parts, at, bent))), False, f"{bent!r} for {parts[at]!r}")
                for bent in [paper.events, paper.others]:
                    self.assertIs(shows_alike(one, other, stack, Apart(paper.start, paper.replies, bent, bent)), False)

    def bent_values(self, start, stack):
        """Values in the place of a start or a reply that tell just what they must, or not just this."""
        found = [list(start.items()), None, (), {**start, "q": 0}, {**start, None: 0}]
        for name in start:
            found.append({other: start[other] for other in start if other != name})
            found += [{**start, name: other} for other in [-1, stack.handler(name).size, bool(start[name]), str(start[name]), None]]
            found.append({(name,) if other == name else other: start[other] for other in start})
        return found

    def bent_replies(self, paper, stack):
        replies = paper.replies
        asked = values_of(stack, [name for name in paper.start if name in stack.shared])
        found = [list(replies), None, replies[:-1] if replies else None, (*replies, asked[0]), (*replies, None), {}]
        for at, reply in enumerate(replies):
            found += [put_in(replies, at, bent) for bent in self.bent_values(reply, stack)]
        return found

    def bent_rows(self, events):
        found = [list(events), events[:-1], (*events, events[-1]), None, (), events[0], events[1:]]
        for at, event in enumerate(events):
            found += [put_in(events, at, bent) for bent in [None, str(event), (event,), *bent_events(event)]]
        return found

    def test_a_start_that_tells_more_cells(self):
        stack = Stack.read("cell x 2, cell y 2, choice")
        one, other = Program.read("put x 1 ; none"), NONE
        found = alike(one, other, stack)
        self.assertIs(shows_alike(one, other, stack, found), True)
        more = [Over({"x": value, "y": 0}, {}) for value in [1, 0]]
        self.assertIs(shows_alike(one, other, stack, Apart({"x": 0, "y": 0}, (), (more[0],), (more[1],))), False)
        other = Program.read("if y = 0 ( none ) else ( none )")
        self.assertIs(shows_alike(one, other, stack, Apart({"y": 0, "x": 0}, (), (more[0],), (more[1],))), True)
        self.assertIs(shows_alike(one, other, stack, found), False)

    def test_events_that_part_too_early_or_not_at_all(self):
        one, other = Program.read("choose ( put x 1 ) or ( put x 1 )"), Program.read("choose ( put x 0 ) or ( put x 0 )")
        talks = [Talk(program, SHARED, {"x": 0}) for program in [one, other]]
        for many in range(3):
            replies = talks[0].replies
            told = Apart({"x": 0}, replies, talks[0].events, talks[1].events)
            self.assertIs(shows_alike(one, other, SHARED, told), many == 0)
            self.assertIs(shows_alike(one, one, SHARED, Apart({"x": 0}, replies, talks[0].events, talks[0].events)), False)
            if many < 2:
                for talk in talks:
                    talk.reply({"x": 0})

    def test_replies_behind_the_end(self):
        over = Over({"x": 1}, {}), Over({"x": 0}, {})
        one = Program.read("put x 1 ; none")
        self.assertIs(shows_alike(one, NONE, SHARED, Apart({"x": 0}, (), (over[0],), (over[1],))), True)
        for events, others in [((over[0], over[0]), (over[0], over[1])), ((over[0],) * 2, (over[1],) * 2)]:
            self.assertIs(shows_alike(one, NONE, SHARED, Apart({"x": 0}, ({"x": 0},), events, others)), False)
        stop = Apart({}, ({},), (Stopped({}, {}), Ended({}, {})), (Stopped({}, {}), Over({}, {})))
        self.assertIs(shows_alike(Program.read("stop"), Program.read("stop"), Stack(), stop), False)

    def test_values_that_are_no_papers(self):
        for one, other in [(SKIP, SKIP), (SKIP, NONE)]:
            for value in values():
                self.assertIs(shows_alike(one, other, Stack(), value), False)
                self.assertIs(shows_alike(one, other, Stack(), Same(value)), False)
                for at in range(4):
                    parts = put_in(({}, (), (Ended({}, {}),), (Over({}, {}),)), at, value)
                    right = (one, other) == (SKIP, NONE) and (type(value), value) == [(dict, {}), (tuple, ())][at] if at < 2 else False
                    self.assertIs(shows_alike(one, other, Stack(), Apart(*parts)), right)


class ErrorsTest(LayerCase):
    def test_wrong_values_in_order(self):
        good = Program.read("put x 1")
        for paper in [None, 7, Same(table(good, OWN)), alike(good, SKIP, OWN)]:
            for value in values(lambda value: isinstance(value, Program)):
                self.refused(BadProgram("one"), shows_alike, value, None, None, paper)
                self.refused(BadProgram("other"), shows_alike, good, value, None, paper)
            for value in values(lambda value: isinstance(value, Stack)):
                self.refused(BadStack("stack"), shows_alike, good, good, value, paper)
            for one, other, name in [("put z 1", "put y 1", "z"), ("put x 1", "put y 1 ; put z 1", "y"), ("put y 1", "put x 2", "y"), ("put x 1", "put x 2", "x")]:
                self.refused(Unfit(name), shows_alike, Program.read(one), Program.read(other), OWN, paper)
            self.refused(Unfit("choice"), shows_alike, SKIP, both(7), Stack(), paper)

    def chain(self, many):
        """A table of so many ends without anything else, and then over."""
        rows = [((Over({}, {}), None),)] + [((Ended({}, {}), number),) for number in range(many)]
        return Same(Table((), (), (), tuple(rows)))

    def test_it_plays_only_as_far_as_it_must(self):
        stack, big = Stack.read("choice"), both(7)
        for paper in [None, Same(None), self.chain(10), self.chain(63), Apart({}, (), (), ()), Apart({"x": 0}, (), (Ended({}, {}),), (Over({}, {}),))]:
            self.assertIs(shows_alike(big, big, stack, paper), False)
        for many in [64, 65, 127, 128]:
            self.refused(TooMany("ends", 64), shows_alike, big, big, stack, self.chain(many))
        self.assertIs(shows_alike(both(6), both(6), stack, self.chain(64)), True)
        self.assertIs(shows_alike(both(6), both(6), stack, self.chain(65)), False)
        self.refused(TooMany("ends", 64), shows_alike, both(6), big, stack, self.chain(64))
        self.assertIs(shows_alike(both(5), big, stack, self.chain(64)), False)

    def test_it_plays_a_talk_only_as_far_as_it_is_told(self):
        stack, big = Stack.read("choice"), both(7)
        end, over = Ended({}, {}), Over({}, {})
        for many in [1, 2, 6]:
            replies = ({},) * 2 ** many
            paper = Apart({}, replies, (end,) * 2 ** many + (end,), (end,) * 2 ** many + (over,))
            if many < 6:
                self.assertIs(shows_alike(big, both(many), stack, paper), True)
            else:
                self.refused(TooMany("ends", 64), shows_alike, big, both(many), stack, paper)
                paper = Apart({}, replies, paper.others, paper.events)
                self.refused(TooMany("ends", 64), shows_alike, both(many), big, stack, paper)
                self.assertIs(shows_alike(big, both(many), stack, Apart({}, replies, (over, *paper.events[1:]), (over, *paper.others[1:]))), False)

    def test_steps_and_words(self):
        stack = Stack.read("log l, choice")
        long = both(3) + says(50)
        self.assertIs(shows_alike(long, long, stack, Same(table(long, stack))), True)
        words = long + NONE
        told = Same(Table((), (), ("l",), (((Over({}, {"l": ("a",) * 400}), None),),)))
        self.refused(TooMany("words", 200), shows_alike, words, words, stack, told)
        steps = both(8) + Program.read(" ; ".join(["put x 1"] * 20) + " ; none")
        over = Over({}, {})
        self.refused(TooMany("steps", 4000), shows_alike, steps, steps, OWN, Same(Table((("x", 2),), (), (), (((over, None), (over, None)),))))
        for program, error, row, event, last in [
            (words, TooMany("words", 200), stack, Ended({}, {"l": ()}), Over({}, {"l": ()})), (steps, TooMany("steps", 4000), OWN, Ended({"x": 0}, {}), over),
        ]:
            start = {cell: 0 for cell in program.cells}
            self.refused(error, shows_alike, SKIP, program, row, Apart(start, (), (event,), (last,)))
            self.refused(error, shows_alike, program, SKIP, row, Apart(start, (), (last,), (event,)))
            self.assertIs(shows_alike(SKIP, program, row, Apart(start, (), (last,), (event,))), False)

    def test_too_many_talks(self):
        stack = Stack.read("cell x 2, choice, cell y 4")
        for last, many in [("skip", 5000), ("choose ( skip ) or ( if x = 0 ( stop ) else ( skip ) )", 5001), (str(both(1)), 5002)]:
            program = just_so_many(last)
            with mock.patch("layerseen.tables.MOST_TALKS", 10000):
                told = Same(table(program, stack))
            self.assertEqual(told.table.talks, many)
            if many == 5000:
                self.assertIs(shows_alike(program, program, stack, told), True)
            else:
                self.refused(TooMany("talks", 5000), shows_alike, program, program, stack, told)
