"""Under which stacks two programs are alike: rows, conditions and reasons, against all conditions gone through."""

import itertools
import random

from layerseen.classes import classes
from layerseen.errors import BadProgram, BadStack, TooMany, Unfit
from layerseen.handlers import Cell, Choice, Failure, Log
from layerseen.likeness import Apart, Same, alike
from layerseen.player import ends
from layerseen.programs import Leave, Program
from layerseen.stacks import Stack
from layerseen.tables import Table, table
from layerseen.talks import Ended, Over
from layerseen.values import same as strictly_same
from layerseen.where import Rule, Where, groups, rules, shown, shows_where, where
from tests.support import LayerCase, apart, orders, values
from tests.test_likeness import OWN, POOL
from tests.test_look_likeness import put_in, unfolded
from tests.test_player_orders import random_program
from tests.test_talks import both, says

ROWS = [
    "-", "cell x 2", "choice, cell x 2", "failure f, choice", "cell x 2, failure f", "cell x 2, failure f, choice", "log l, cell x 2, failure f",
    "failure f, failure g, choice, log l", "cell x 2, log l, failure f, choice", "cell x 2, cell y 2, failure f, failure g", "cell x 2, log l, failure f, failure g, choice",
]
STACKS = [Stack.read(row) for row in ROWS]
PUT, NONE = Program.read("put x 1 ; none"), Program.read("none")


def names_of(stack):
    return [handler.name for handler in stack]


def outside(stack, outer, inner):
    names = names_of(stack)
    return names.index(outer) < names.index(inner)


def pairs_that_interact(stack):
    """All pairs of names of handlers that interact, either one first."""
    return [(one.name, other.name) for one, other in itertools.permutations(stack, 2) if one.meets(other)]


def all_conditions(rows):
    """By the indexes of the stacks that have them, all conditions, as ascending tuples of pairs."""
    pairs = sorted({tuple(sorted(pair)) for pair in pairs_that_interact(rows[0])})
    found = {}
    for picks in itertools.product([None, False, True], repeat=len(pairs)):
        condition = tuple(sorted(pair[::-1] if turn else pair for pair, turn in zip(pairs, picks) if turn is not None))
        having = tuple(at for at, row in enumerate(rows) if all(outside(row, *pair) for pair in condition))
        if having:
            found.setdefault(having, []).append(condition)
    return found


def reasons_of(rows, good, conditions):
    """The reasons, by going through all conditions."""
    enough = [having for having in conditions if set(having) <= set(good)]
    found = []
    for having in enough:
        if not any(set(having) < set(other) for other in enough):
            fewest = min(len(condition) for condition in conditions[having])
            told = [condition for condition in conditions[having] if len(condition) == fewest]
            assert len(told) == 1
            found.append(told[0])
    return tuple(sorted(found, key=lambda condition: (len(condition), condition)))


def made(rows, good):
    """A Where that tells that two programs are alike under the stacks of these indexes."""
    return Where(tuple((row, Same(None) if at in good else Apart({}, (), (), ())) for at, row in enumerate(rows)))


class RowsTest(LayerCase):
    def test_rows_for_programs_near_one_another(self):
        dice = random.Random(71)
        tried = 0
        seen = []
        while tried < 150:
            stack = dice.choice(STACKS)
            one, other = self.near_pair(dice, stack)
            tried += 1
            order = list(stack)
            dice.shuffle(order)
            expected = tuple((row, alike(one, other, row)) for row in classes(stack))
            for found in [where(one, other, stack), where(one=one, other=other, stack=Stack(*order))]:
                self.assertIs(type(found), Where)
                self.same(found.rows, expected)
                good = tuple(row for row, paper in expected if paper)
                self.same(found.stacks, good)
                self.assertIs(bool(found), len(good) == len(expected))
                seen.append(len(good) / len(expected))
            self.assertIs(shows_where(one, other, stack, found), True)
            self.assertIs(shows_where(one=one, other=other, stack=Stack(*order), value=found), True)
        self.assertGreater(len([part for part in seen if 0 < part < 1]), 60)
        self.assertGreater(seen.count(1), 20)
        self.assertGreater(seen.count(0), 20)

    def near_pair(self, dice, stack):
        """Two programs of which mostly some are alike under some stack."""
        fitting = [program for program in POOL if stack.takes(program)]
        for turn in range(30):
            one, other = dice.choice(fitting), dice.choice(fitting)
            if one != other and any(alike(one, other, dice.choice(orders(*stack))) for again in range(2)):
                break
        return one, other

    def test_random_programs_of_five_handlers(self):
        dice = random.Random(72)
        stack = Stack.read("cell x 2, cell y 3, log l, failure f, choice")
        tried = 0
        while tried < 15:
            one = random_program(dice, 1)
            other = one.without(dice.choice(list(one.walk())))
            if not stack.takes(one) or "choose" in str(other) and one.cells == ("x", "y"):
                continue
            tried += 1
            found = where(one, other, stack)
            self.assertEqual(len(found.rows), 54)
            self.same(found.rows, tuple((row, alike(one, other, row)) for row in classes(stack)))
            self.fact(one, other, stack, found)

    def fact(self, one, other, stack, found):
        """Both are alike exactly under the stacks that have one of the reasons."""
        for row in orders(*stack):
            right = bool(alike(one, other, row))
            self.assertIs(row in found, right)
            self.assertIs(any(all(outside(row, *pair) for pair in reason) for reason in found.reasons()), right)

    def test_the_fact_of_reasons(self):
        dice = random.Random(73)
        for turn in range(60):
            stack = dice.choice(STACKS[:-1])
            one, other = self.near_pair(dice, stack)
            self.fact(one, other, stack, where(one, other, stack))

    def test_papers(self):
        for value in values():
            self.same(Where(value).rows, value)
            self.same(Where(rows=value).rows, value)
            self.assertTrue(Where((7, value)) == Where((7, value)))
            self.assertFalse(Where((7, value)) == Where((8, value)))
        rows = [(OWN, Same({"x": 1}))]
        found = Where(rows)
        rows[0][1].table["x"] = 2
        rows.append(None)
        self.same(found.rows, [(OWN, Same({"x": 1}))])
        self.only_equal_to_itself(lambda: Where(()))
        self.is_paper(Rule)
        self.assertIs(strictly_same(Where(1), Where(1)), True)
        self.assertIs(strictly_same(Where(1), Where(True)), False)
        for name in ["__init__", "__eq__", "__bool__", "__contains__", "stacks", "needed", "enough", "reasons"]:
            self.assertIn(name, vars(Where))
        for name in ["stacks", "needed"]:
            self.assertIs(type(vars(Where)[name]), property)


class ContainsTest(LayerCase):
    def test_stacks_that_are_not_normal(self):
        for stack in STACKS:
            rows = list(classes(stack))
            for good in [(), (0,), tuple(range(0, len(rows), 2)), tuple(range(len(rows)))]:
                found = made(rows, good)
                for order in orders(*stack)[:150]:
                    self.assertIs(order in found, any(not apart(order, rows[at]) for at in good))

    def test_other_handlers_and_values(self):
        stack = Stack.read("cell x 3, log l, failure f, choice")
        found = made(list(classes(stack)), range(18))
        self.assertIn(stack, found)
        for row in [
            "cell x 2, log l, failure f, choice", "cell x 3, log l, failure f", "cell y 3, log l, failure f, choice", "cell l 3, log x, failure f, choice",
            "cell x 3, cell y 2, log l, failure f, choice", "log x, log l, failure f, choice", "-",
        ]:
            self.assertNotIn(Stack.read(row), found)
        for value in [*values(), "cell x 3, log l, failure f, choice", tuple(stack), list(stack), (stack,), str(stack)]:
            self.assertIs(value in found, False)
        self.assertIn(Stack(), made([Stack()], (0,)))
        self.assertNotIn(Stack(), made([Stack()], ()))


class ConditionsTest(LayerCase):
    def goods(self, dice, many, count):
        """Sets of indexes below many: none, all, all but one, and others by chance."""
        found = [(), tuple(range(many)), tuple(range(1, many)), (0,)]
        for turn in range(count):
            part = dice.random()
            found.append(tuple(at for at in range(many) if dice.random() < part))
        return found

    def test_reasons_against_all_conditions(self):
        dice = random.Random(74)
        for stack in STACKS[:-1]:
            rows = list(classes(stack))
            conditions = all_conditions(rows)
            for good in self.goods(dice, len(rows), 40):
                self.same(made(rows, good).reasons(), reasons_of(rows, good, conditions))
            # The stacks that have one of some conditions: here the reasons are few.
            for turn in range(30):
                some = dice.sample(sorted(conditions), min(2, len(conditions)))
                good = tuple(at for at in range(len(rows)) if any(at in having for having in some))
                self.same(made(rows, good).reasons(), reasons_of(rows, good, conditions))

    def test_reasons_of_many_classes(self):
        dice = random.Random(75)
        rows = list(classes(STACKS[-1]))
        self.assertEqual(len(rows), 78)
        conditions = all_conditions(rows)
        for turn in range(6):
            some = dice.sample(sorted(conditions), 2 + turn)
            good = tuple(at for at in range(78) if any(at in having for having in some))
            self.same(made(rows, good).reasons(), reasons_of(rows, good, conditions))

    def test_reasons_by_hand(self):
        rows = list(classes(Stack.read("cell x 2, failure f, choice")))
        self.assertEqual([" ".join(names_of(row)) for row in rows], ["choice f x", "choice x f", "f choice x", "f x choice", "x choice f", "x f choice"])
        for good, reasons in [
            ((), ()), ((0, 1, 2, 3, 4, 5), ((),)), ((0, 1, 2), ((("choice", "x"),),)), ((0,), ((("choice", "f"), ("f", "x")),)),
            ((0, 5), ((("choice", "f"), ("f", "x")), (("f", "choice"), ("x", "f")))), ((0, 1), ((("choice", "f"), ("choice", "x")),)),
            ((0, 1, 2, 4), ((("choice", "f"),), (("choice", "x"),))), ((1, 2, 3, 4, 5), ((("f", "choice"),), (("x", "choice"),), (("x", "f"),))),
            ((1, 3, 4), ((("choice", "f"), ("x", "f")), (("f", "x"), ("x", "choice")))),
        ]:
            self.same(made(rows, good).reasons(), reasons)

    def test_needed(self):
        dice = random.Random(76)
        for stack in STACKS:
            rows = list(classes(stack))
            for good in self.goods(dice, len(rows), 20):
                needed = [pair for pair in pairs_that_interact(stack) if good and all(outside(rows[at], *pair) for at in good)]
                self.same(made(rows, good).needed, tuple(sorted(needed)))

    def test_enough_of_all_conditions(self):
        dice = random.Random(77)
        for stack in STACKS[:-2]:
            rows = list(classes(stack))
            conditions = all_conditions(rows)
            for good in self.goods(dice, len(rows), 4):
                found = made(rows, good)
                for having, some in conditions.items():
                    for condition in dice.sample(some, min(3, len(some))):
                        told = list(condition) * dice.randrange(1, 3)
                        dice.shuffle(told)
                        for value in [condition, tuple(told), condition[::-1]]:
                            self.assertIs(found.enough(value), set(having) <= set(good))
                        self.assertIs(found.enough(condition=list(condition)), False)

    def test_enough_of_what_is_no_condition(self):
        stack = Stack.read("cell x 2, log l, failure f, choice")
        found = where(NONE, NONE, stack)
        self.assertTrue(found.enough(()))
        for pair in pairs_that_interact(stack):
            self.assertIs(found.enough((pair,)), True)
            self.assertIs(found.enough((pair, pair)), True)
            for bent in [list(pair), pair[:1], (*pair, "x"), " ".join(pair), (pair[0], None), (pair[0], 1), (pair[0], pair[0]), (pair,), None, {pair: None}]:
                self.assertIs(found.enough((bent,)), False)
                self.assertIs(found.enough((pair, bent)), False)
            self.assertIs(found.enough((pair, pair[::-1])), False)
            self.assertIs(found.enough(pair), False)
        for condition in [
            (("x", "l"),), (("l", "x"),), (("x", "f"), ("x", "l")), (("x", "y"),), (("x", "g"),), (("x", "f"), ("f", "choice"), ("choice", "x")),
            (("x", "f"), ("f", "l"), ("l", "choice"), ("choice", "x")), (("f", "x"), ("x", "choice"), ("choice", "f")),
        ]:
            self.assertIs(found.enough(condition), False)
        for value in values(lambda value: value in [(), "f", "choice"]):
            self.assertIs(found.enough(value), False)
            self.assertIs(found.enough((value,)), False)
            self.assertIs(found.enough(((value, "x"),)), False)
            self.assertIs(found.enough((("x", "f"), value)), False)
        self.assertIs(where(NONE, PUT, Stack.read("cell x 2, choice")).enough(()), False)


class ShowsWhereTest(LayerCase):
    def setUp(self):
        self.stack = Stack.read("cell x 2, failure f, choice")
        self.found = where(PUT, NONE, self.stack)

    def check(self, rows, right):
        self.assertIs(shows_where(PUT, NONE, self.stack, Where(rows)), right)

    def test_rows_bent(self):
        rows = self.found.rows
        self.check(rows, True)
        self.check(list(rows), False)
        self.check((), False)
        self.check(rows + rows[-1:], False)
        self.check(rows[::-1], False)
        for at, (row, paper) in enumerate(rows):
            self.check(rows[:at] + rows[at + 1:], False)
            self.check(rows[:at] + (rows[at],) + rows[at:], False)
            other = rows[(at + 1) % len(rows)]
            self.check(put_in(rows, at, other), False)
            for bent in [list(rows[at]), (row,), (row, paper, None), row, paper, None, (None, paper), (str(row), paper), (paper, row), (~row, paper)]:
                self.check(put_in(rows, at, bent), False)
            for bent in [None, True, False, Same(None), Same(paper), Apart({}, (), (), ()), *[told for kept, told in rows if told != paper and bool(told) is not bool(paper)]]:
                self.check(put_in(rows, at, (row, bent)), False)
        self.check(put_in(put_in(rows, 0, rows[1]), 1, rows[0]), False)

    def test_papers_that_alike_does_not_tell(self):
        rows = self.found.rows
        seen = 0
        for at, (row, paper) in enumerate(rows):
            if paper:
                seen += 1
                self.check(put_in(rows, at, (row, Same(unfolded(paper.table)))), True)
                self.check(put_in(rows, at, (row, Same(table(PUT, row, "x")))), True)
            else:
                start = {"x": 1}
                turned = alike(NONE, PUT, row)
                self.check(put_in(rows, at, (row, turned)), False)
                self.check(put_in(rows, at, (row, Apart(start, paper.replies, paper.events, paper.others))), False)
        self.assertEqual(seen, 3)
        one, other = Program.read("put x 0"), Program.read("put x 1")
        stack = Stack.read("cell x 2")
        found = where(one, other, stack)
        later = Apart({"x": 1}, (), found.rows[0][1].events, found.rows[0][1].others)
        self.assertNotEqual(later, found.rows[0][1])
        self.assertIs(shows_where(one, other, stack, Where(((stack, later),))), True)

    def test_values_that_are_no_papers(self):
        for value in values():
            self.assertIs(shows_where(PUT, NONE, self.stack, value), False)
            self.assertIs(shows_where(PUT, NONE, self.stack, Where(value)), False)
        self.assertIs(shows_where(PUT, NONE, self.stack, self.found.rows), False)

    def test_where_a_looker_raises(self):
        stack, big = Stack.read("choice"), both(7)
        chain = Table((), (), (), chain_of(64))
        self.assertIs(shows_where(big, big, stack, Where(((stack, Same(chain)),))), False)
        self.refused(TooMany("ends", 64), where, big, big, stack)
        self.assertIs(shows_where(both(6), both(6), stack, Where(((stack, Same(chain)),))), True)


class ErrorsTest(LayerCase):
    def test_wrong_values_in_order(self):
        good = Program.read("put x 1")
        for work in [where, lambda one, other, stack: shows_where(one, other, stack, None)]:
            for value in values(lambda value: isinstance(value, Program)):
                self.refused(BadProgram("one"), work, value, None, None)
                self.refused(BadProgram("one"), work, value, good, OWN)
                self.refused(BadProgram("other"), work, good, value, None)
                self.refused(BadProgram("other"), work, good, value, OWN)
            for value in values(lambda value: isinstance(value, Stack)):
                self.refused(BadStack("stack"), work, good, good, value)
            for one, other, name in [("put z 1", "put y 1", "z"), ("put x 1", "put y 1 ; put z 1", "y"), ("put y 1", "put x 2", "y"), ("put x 1", "put x 2", "x")]:
                self.refused(Unfit(name), work, Program.read(one), Program.read(other), OWN)
            self.refused(Unfit("choice"), work, Program(), both(7), Stack())
        for work in [groups, shown]:
            for value in values(lambda value: isinstance(value, Program)):
                self.refused(BadProgram("program"), work, value, None)
                self.refused(BadProgram("program"), work, value, OWN)
            for value in values(lambda value: isinstance(value, Stack)):
                self.refused(BadStack("stack"), work, good, value)
            self.refused(Unfit("a"), work, Program.read("put x 2 ; say a a"), OWN)
            self.refused(Unfit("choice"), work, both(7), Stack())
        for value in values(lambda value: isinstance(value, Stack)):
            self.refused(BadStack("stack"), lambda stack: list(rules(stack)), value)

    def test_too_many_classes(self):
        wide = Stack.read("cell x 2, cell y 2, log l, log m, failure f, failure g")
        most = Stack.read("cell x 2, log l, failure f, failure g, choice")
        big = both(7)
        none = Program()
        for work in [lambda program, stack: where(program, program, stack), lambda program, stack: shows_where(program, program, stack, None), groups, shown]:
            self.refused(TooMany("classes", 100), work, none, wide)
            self.refused(TooMany("classes", 100), work, big, wide + Choice())
            self.refused(Unfit("q"), work, Program.read("put q 1"), wide)
            work(none, most)
        self.assertEqual([len(where(none, none, most).rows), len(groups(none, most)[0][1])], [78, 78])
        # 64 classes of many handlers, and one class of nine that do not interact.
        many = Stack(*[Cell(name) for name in "abcd"], Log("l"), Log("m"), Choice())
        self.assertEqual(len(where(none, none, many).rows), 64)
        self.assertEqual(len(where(none, none, many - "choice").rows), 1)
        self.refused(TooMany("classes", 100), where, none, none, many + Failure("f"))

    def test_too_many_of_a_run(self):
        stack = Stack.read("log l, choice, cell x 2, cell y 2")
        good, big = Program(), both(7)
        for work in [where, lambda one, other, stack: shows_where(one, other, stack, None) or where(one, other, stack)]:
            self.refused(TooMany("ends", 64), work, good, big, stack)
            self.refused(TooMany("ends", 64), work, big, good, stack)
        self.refused(TooMany("ends", 64), groups, big, stack)
        self.refused(TooMany("ends", 64), shown, big, stack)
        # Under a log of its own each branch says 50 words, under a shared one both together say too many.
        late = both(1) * 3 + says(50)
        for work in [groups, shown]:
            self.refused(TooMany("words", 200), work, late, stack)
        self.assertEqual(len(groups(both(2) + says(50), stack)), 2)
        # The first class is that with the log within the choice: the other one raises.
        self.refused(TooMany("words", 200), where, late + Leave(), late + Leave(), stack)
        self.refused(TooMany("ends", 64), where, late + Leave(), big, stack)
        self.assertEqual(len(where(late, late, Stack.read("log l, choice")).rows), 2)


class GroupsTest(LayerCase):
    def test_against_all_classes(self):
        dice = random.Random(78)
        for stack in STACKS:
            fitting = [program for program in POOL if stack.takes(program)]
            rows = list(classes(stack))
            for program in dice.sample(fitting, min(len(fitting), 12)):
                seen = [ends(program, row) for row in rows]
                expected = []
                for found in seen:
                    if found not in [pair[0] for pair in expected]:
                        expected.append((found, tuple(row for row, other in zip(rows, seen) if other == found)))
                order = list(stack)
                dice.shuffle(order)
                self.same(groups(program, stack), tuple(expected))
                self.same(groups(program=program, stack=Stack(*order)), tuple(expected))

    def test_random_programs(self):
        dice = random.Random(79)
        stack = Stack.read("cell x 2, cell y 3, failure f, failure g, choice")
        rows = list(classes(stack))
        tried = unlike = 0
        while tried < 40:
            program = random_program(dice, 2)
            try:
                seen = [ends(program, row) for row in rows] if stack.takes(program) else None
            except TooMany:
                continue
            if seen:
                tried += 1
                found = groups(program, stack)
                unlike += len(found) > 2
                self.same([seen[rows.index(row)] for shown_ends, stacks in found for row in stacks], [shown_ends for shown_ends, stacks in found for row in stacks])
                self.assertEqual(sorted(rows.index(row) for shown_ends, stacks in found for row in stacks), list(range(78)))
                for shown_ends, stacks in found:
                    self.assertEqual([rows.index(row) for row in stacks], sorted(rows.index(row) for row in stacks))
                firsts = [rows.index(stacks[0]) for shown_ends, stacks in found]
                self.assertEqual(firsts, sorted(firsts))
                self.assertEqual(len({str(list(map(str, shown_ends))) for shown_ends, stacks in found}), len(found))
        self.assertGreater(unlike, 1)


def shown_by(program, stack):
    """The pairs whose exchange changes the ends, by going through all stacks."""
    found = set()
    for order in orders(*stack):
        for place in range(len(order) - 1):
            one, other = order[place], order[place + 1]
            if one.meets(other) and ends(program, order) != ends(program, order.exchanged(place)):
                found.add(tuple(sorted([one.name, other.name])))
    return tuple(sorted(found))


class ShownTest(LayerCase):
    def test_against_all_exchanges_of_neighbours(self):
        dice = random.Random(80)
        for stack in STACKS:
            if len(stack) < 5:
                fitting = [program for program in POOL if stack.takes(program)]
                for program in fitting:
                    found = shown_by(program, stack)
                    self.same(shown(program, stack), found)
                    self.same(shown(program=program, stack=~stack), found)
                    self.assertIs(len(groups(program, stack)) == 1, found == ())
        for program in dice.sample(POOL, 6):
            self.same(shown(program, STACKS[-1]), shown_by(program, STACKS[-1]))

    def test_random_programs(self):
        dice = random.Random(81)
        stack = Stack.read("cell y 3, cell x 2, failure f, choice")
        for turn in range(40):
            program = random_program(dice, 2)
            if stack.takes(program):
                try:
                    found = shown_by(program, stack)
                except TooMany:
                    continue
                self.same(shown(program, stack), found)

    def test_by_hand(self):
        for text, row, pairs in [
            ("put x 1 ; fail f", "cell x 2, failure f, choice", (("f", "x"),)), ("put x 1 ; none", "cell x 2, choice", ()),
            ("choose ( put x 1 ) or ( skip )", "cell x 2, log l, choice", (("choice", "x"),)), ("choose ( skip ) or ( fail f )", "failure f, choice", (("choice", "f"),)),
            ("say l a ; fail f", "log l, cell x 2, failure f", (("f", "l"),)), ("skip", "-", ()),
        ]:
            self.same(shown(Program.read(text), Stack.read(row)), pairs)


class RulesTest(LayerCase):
    TABLE = [
        ("over", "x", "put {x} 1 ; put {x} 0", "put {x} 0", [[]]),
        ("end", "x", "stop ; put {x} 1", "stop", [[]]),
        ("aside", "xl", "put {x} 1 ; say {l} a", "say {l} a ; put {x} 1", [[]]),
        ("lost", "xc", "put {x} 1 ; none", "none", [["cx"]]),
        ("unsaid", "lc", "say {l} a ; none", "none", [["cl"]]),
        ("ahead", "xc", "put {x} 1 ; choose ( skip ) or ( skip )", "choose ( put {x} 1 ) or ( put {x} 1 )", [["cx"]]),
        ("vain", "xf", "put {x} 1 ; fail {f}", "fail {f}", [["fx"]]),
        ("back", "xf", "catch {f} ( put {x} 1 ; fail {f} ) else ( skip )", "skip", [["fx"]]),
        ("mute", "lf", "catch {f} ( say {l} a ; fail {f} ) else ( skip )", "skip", [["fl"]]),
        ("broken", "fc", "choose ( fail {f} ) or ( skip )", "fail {f}", [["fc"]]),
        ("gathered", "xfc", "catch {f} ( choose ( put {x} 1 ) or ( put {x} 0 ) ) else ( skip )", "choose ( put {x} 1 ) or ( put {x} 0 )", [["cf"], ["cx"]]),
    ]

    def rules_of(self, stack):
        """The rules that the table tells."""
        kinds = {"x": Cell, "l": Log, "f": Failure, "c": Choice}
        for word, letters, one, other, conditions in self.TABLE:
            names = [sorted(handler.name for handler in stack if isinstance(handler, kinds[letter])) for letter in letters]
            for row in itertools.product(*names):
                told = dict(zip(letters, row))
                yield Rule(word, Program.read(one.format(**told)), Program.read(other.format(**told)), tuple(sorted(
                    tuple((told[pair[0]], told[pair[1]]) for pair in condition) for condition in conditions
                )))

    def test_each_word_of_the_table(self):
        for row in [
            "-", "choice", "cell x 2", "log l", "failure f", "cell x 2, choice", "choice, log l", "failure f, choice", "cell x 4, failure f, choice", "log l, failure f",
            "cell x 2, log l, failure f, choice", "cell x 2, log l, failure f", "log x, failure l, cell f 2, choice", "cell b 2, cell a 3, failure d, failure c, choice",
            "log b, log a, choice, failure d, failure c", "failure z, cell b 2, log y, choice, log k, cell c 3", "log z, log a, cell m 2, cell b 2, failure x",
        ]:
            stack = Stack.read(row)
            self.same(list(rules(stack)), list(self.rules_of(stack)))
            self.same(list(rules(stack=~stack)), list(self.rules_of(stack)))

    def test_great_stacks(self):
        stack = Stack.read("cell d 2, cell c 3, cell b 4, cell a 2, log m, log l, failure h, failure g, failure f, choice")
        found = list(rules(stack))
        self.same(found, list(self.rules_of(stack)))
        self.assertEqual([len([rule for rule in found if rule.word == row[0]]) for row in self.TABLE], [4, 4, 8, 4, 2, 4, 12, 12, 6, 3, 12])

    def test_the_conditions_are_the_reasons_of_its_where(self):
        for row in [
            "cell x 2, log l, failure f, choice", "cell x 2, failure g, failure f, choice", "cell x 2, cell y 3, failure f, choice", "cell x 2, log l, failure f",
            "log l, log m, choice, cell x 2", "cell x 2, log l, failure f, failure g, choice", "failure f, failure g, choice, failure h, log l",
        ]:
            stack = Stack.read(row)
            for rule in rules(stack):
                self.same(where(rule.one, rule.other, stack).reasons(), rule.conditions)


def chain_of(many):
    """The rows of so many ends without anything else, and then over."""
    return tuple([((Over({}, {}), None),)] + [((Ended({}, {}), number),) for number in range(many)])
