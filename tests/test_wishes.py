"""Wishes, and the stacks that keep them."""

import itertools
import random

from layerseen.classes import classes, normal
from layerseen.errors import BadName, BadStack, BadText, BadWish, NoName, TooMany
from layerseen.handlers import Cell, Choice, Failure, Log
from layerseen.names import is_name
from layerseen.stacks import Stack
from layerseen.wishes import Near, Ring, Wish, Wishes, nearest, shows_near, shows_ring, stack_for
from tests.support import LayerCase, apart, orders, same, values

X, Y, L, F, G, C = Cell("x"), Cell("y", 3), Log("l"), Failure("f"), Failure("g"), Choice()
FOUR = Stack(Y, X, F, C)


def is_end(value):
    """Whether a value can stand in a wish."""
    return is_name(value) or value == "choice" and isinstance(value, str)


def wishes_of(*texts):
    return Wishes(*[Wish.read(text) for text in texts])


def possible(handlers):
    """All wishes about two handlers that interact."""
    return [Wish(one.name, other.name) for one, other in itertools.permutations(handlers, 2) if one.meets(other)]


def kept_by(stack, wishes):
    """Whether a stack keeps wishes, asked of the places alone."""
    return all(stack.names.index(wish.inner) > stack.names.index(wish.outer) for wish in wishes)


def some_wishes(count, sets):
    """Stacks and wishes about their handlers, few or many."""
    chance = random.Random(5)
    for turn in range(count):
        handlers = chance.choice(sets)
        stack = Stack(*chance.sample(handlers, len(handlers)))
        wishes = possible(handlers)
        yield stack, Wishes(*chance.sample(wishes, min(len(wishes), chance.randrange(7))))


def ring_of(wishes):
    """The least ring of as few names as any, by going on with all rows of unlike names."""
    pairs = sorted((wish.inner, wish.outer) for wish in wishes)
    rows = [(name,) for name in sorted({inner for inner, outer in pairs})]
    while rows:
        closed = [row for row in rows if (row[-1], row[0]) in pairs]
        if closed:
            return min(closed)
        rows = [(*row, outer) for row in rows for inner, outer in pairs if inner == row[-1] and outer not in row]
    return None


def closed_sets(stack, wishes):
    names = sorted(stack.names)
    for many in range(len(names) + 1):
        for some in itertools.combinations(names, many):
            if all(wish.outer in some for wish in wishes if wish.inner in some):
                yield some


def are_floors(stack, wishes, floors, many):
    """What the document asks of floors, said another way."""
    closed = list(closed_sets(stack, wishes))
    if set(floors) != set(closed) or floors[()] != 0 or floors[tuple(sorted(stack.names))] != many:
        return False
    for some, name in itertools.product(closed, stack.names):
        greater = tuple(sorted({*some, name}))
        if name not in some and greater in closed:
            turning = [
                other for other in some
                if stack.handler(other).meets(stack.handler(name)) and stack.is_inside(other, name)
            ]
            if floors[greater] > floors[some] + len(turning):
                return False
    return True


class WishTest(LayerCase):
    def test_parts_by_position_and_by_name(self):
        for wish in [Wish("x", "f"), Wish(inner="x", outer="f"), Wish("x", outer="f"), Wish(outer="f", inner="x")]:
            self.same([wish.inner, wish.outer], ["x", "f"])
        for wish in [Wish("choice", "x"), Wish(inner="choice", outer="x"), ~Wish("x", "choice")]:
            self.same([wish.inner, wish.outer], ["choice", "x"])

    def test_what_it_defines_itself(self):
        for name in (
            "__init__ __invert__ __eq__ __str__ holds read undone_by kept_by each_own all_share branch_fails all_fail"
        ).split():
            self.assertIn(name, vars(Wish))

    def test_wrong_names_in_order(self):
        for value in values(is_end):
            self.refused(BadName(value), Wish, value, "x")
            self.refused(BadName(value), Wish, value, value)
            self.refused(BadName(value), Wish, value, 7)
            self.refused(BadName(value), Wish, "x", value)
            self.refused(BadName(value), Wish, outer=value, inner="choice")
        for name in ["x", "choice", "abcdefgh"]:
            self.refused(BadWish("same"), Wish, name, name)

    def test_turned_about_and_equality(self):
        self.assertEqual(~Wish("x", "f"), Wish("f", "x"))
        self.assertEqual(~~Wish("x", "choice"), Wish("x", "choice"))
        self.only_equal_to_itself(lambda: Wish("x", "f"))
        for other in [Wish("f", "x"), Wish("x", "g"), Wish("y", "f"), Wish("x", "choice")]:
            self.assertFalse(Wish("x", "f") == other)
            self.assertTrue(Wish("x", "f") != other)
        self.assertTrue(Wish("x", "f"))

    def test_static_methods(self):
        for work, parts, text in [
            (Wish.undone_by, ["name", "failure"], "x in f"), (Wish.kept_by, ["name", "failure"], "f in x"),
            (Wish.each_own, ["name"], "x in choice"), (Wish.all_share, ["name"], "choice in x"),
            (Wish.branch_fails, ["failure"], "f in choice"), (Wish.all_fail, ["failure"], "choice in f"),
        ]:
            given = {"name": "x", "failure": "f"}
            self.assertEqual(str(work(*[given[part] for part in parts])), text)
            self.assertEqual(str(work(**{part: given[part] for part in parts})), text)
        for value in values(is_end):
            for work in [Wish.undone_by, Wish.kept_by]:
                self.refused(BadName(value), work, value, "x")
                self.refused(BadName(value), work, "x", value)
            for work in [Wish.each_own, Wish.all_share, Wish.branch_fails, Wish.all_fail]:
                self.refused(BadName(value), work, value)
        self.refused(BadName(1), Wish.undone_by, 1, 2)
        self.refused(BadName(2), Wish.kept_by, 1, 2)
        for work in [Wish.each_own, Wish.all_share, Wish.branch_fails, Wish.all_fail]:
            self.refused(BadWish("same"), work, "choice")
        self.refused(BadWish("same"), Wish.undone_by, "f", "f")
        self.refused(BadWish("same"), Wish.kept_by, "f", "f")
        self.assertEqual(str(Wish("x", "f").each_own("y")), "y in choice")

    def test_holds(self):
        for stack in orders(X, F, C):
            for one, other in itertools.permutations(["x", "f", "choice"], 2):
                self.assertIs(Wish(one, other).holds(stack), stack.names.index(one) > stack.names.index(other))
                self.assertIs(Wish(one, other).holds(stack=stack), stack.is_inside(one, other))

    def test_holds_with_its_errors_in_order(self):
        for value in values(lambda value: isinstance(value, Stack)):
            self.refused(BadStack("stack"), Wish("x", "q").holds, value)
        stack = Stack(X, Y, L, F, G)
        for one, other, error in [
            ("q", "r", NoName("q")), ("q", "x", NoName("q")), ("x", "q", NoName("q")), ("choice", "q", NoName("choice")),
            ("x", "choice", NoName("choice")), ("x", "y", BadWish("pair")), ("l", "x", BadWish("pair")), ("f", "g", BadWish("pair")),
        ]:
            self.refused(error, Wish(one, other).holds, stack)


class TextTest(LayerCase):
    def test_there_and_back(self):
        for one, other in itertools.permutations(["x", "choice", "in", "a", "abcdefgh"], 2):
            text = f"{one} in {other}"
            self.assertEqual(str(Wish(one, other)), text)
            self.assertEqual(Wish.read(text), Wish(one, other))
            self.assertEqual(Wish.read(text=text), Wish(one, other))

    def test_wrong_texts(self):
        for text, word in [
            ("", 0), ("x", 1), ("x in", 2), ("x in f g", 3), ("x in f ", 3), (" x in f", 0), ("x  in f", 1), ("x in  f", 2), ("put in f", 0),
            ("x on f", 1), ("x IN f", 1), ("x in put", 2), ("x in x", 2), ("choice in choice", 2), ("x in x1", 2), ("X in f", 0),
            ("x in f\n", 2), ("x in f and x in g", 3), ("x f in", 1), ("in in in", 2), ("abcdefghi in f", 0), ("x in choices in", 3),
            ("choice", 1), ("failure in f", 0),
        ]:
            self.refused(BadText(0, word), Wish.read, text)

    def test_all_changed_words(self):
        words = ["x", "f", "in", "choice", "put", "", "x1", "-"]
        for row in itertools.chain.from_iterable(itertools.product(words, repeat=many) for many in range(1, 5)):
            fits = [is_end, lambda word: word == "in", lambda word: is_end(word) and word != row[0]]
            bad = [at for at, word in enumerate(row) if at > 2 or not fits[at](word)] + ([] if len(row) > 2 else [len(row)])
            if bad:
                self.refused(BadText(0, bad[0]), Wish.read, " ".join(row))
            else:
                self.assertEqual(str(Wish.read(" ".join(row))), " ".join(row))

    def test_what_is_no_string(self):
        for value in values(lambda value: isinstance(value, str)):
            self.refused(BadText(0, 0), Wish.read, value)


class WishesTest(LayerCase):
    ALL = possible([X, Y, L, F, G, C])

    def test_what_it_defines_itself(self):
        for name in (
            "__init__ __len__ __iter__ __contains__ __or__ __and__ __sub__ __le__ __lt__ __eq__ __bool__ listed of_stack hold broken"
        ).split():
            self.assertIn(name, vars(Wishes))
        self.assertIs(type(vars(Wishes)["listed"]), property)

    def test_equal_ones_count_once(self):
        wishes = Wishes(Wish("x", "f"), Wish("a", "f"), Wish("x", "f"), Wish("a", "choice"), Wish("ab", "c"))
        self.same([str(wish) for wish in wishes.listed], ["a in choice", "a in f", "ab in c", "x in f"])
        self.assertIs(type(wishes.listed), tuple)
        self.assertEqual([len(wishes), list(wishes), bool(wishes)], [4, list(wishes.listed), True])
        self.assertEqual([len(Wishes()), list(Wishes()), bool(Wishes()), Wishes().listed], [0, [], False, ()])
        self.assertIs(bool(Wishes(Wish("x", "f"))), True)

    def test_in(self):
        wishes = wishes_of("x in f", "choice in x")
        for value in values():
            self.assertIs(value in wishes, isinstance(value, Wish) and str(value) == "x in f")
        self.assertIs(Wish("x", "f") in wishes, True)
        self.assertIs(Wish("f", "x") in wishes, False)
        self.assertIs("x in f" in wishes, False)

    def test_what_is_no_wish(self):
        good = Wish("x", "f")
        for value in values(lambda value: isinstance(value, Wish)):
            self.refused(BadWish(0), Wishes, value)
            self.refused(BadWish(0), Wishes, value, good, value)
            self.refused(BadWish(3), Wishes, good, good, good, value, value)

    def test_too_many(self):
        many = [Wish(one, other) for one, other in itertools.permutations("abcdefghi", 2)][:61]
        self.assertEqual(len(Wishes(*many[:60])), 60)
        self.assertEqual(len(Wishes(*many[:60], *many[:60])), 60)
        self.refused(TooMany("wishes", 60), Wishes, *many)
        self.refused(BadWish(61), Wishes, *many, None)
        self.refused(TooMany("wishes", 60), lambda: Wishes(*many[:60]) | Wishes(many[60]))
        self.refused(TooMany("wishes", 60), lambda: Wishes(*many[:31]) | Wishes(*many[31:]))
        self.assertEqual(len(Wishes(*many[:60]) | Wishes(*many[1:60])), 60)

    def test_operators(self):
        chance = random.Random(8)
        for turn in range(200):
            some = {str(wish): wish for wish in chance.sample(self.ALL[:8], chance.randrange(6))}
            others = {str(wish): wish for wish in chance.sample(self.ALL[:8], chance.randrange(6))}
            one, other = Wishes(*some.values()), Wishes(*others.values())
            for found, expected in [
                (one | other, set(some) | set(others)), (one & other, set(some) & set(others)), (one - other, set(some) - set(others)),
            ]:
                self.assertIs(type(found), Wishes)
                self.assertEqual(sorted(map(str, found)), sorted(expected))
                self.assertEqual(list(found), sorted(found, key=lambda wish: (wish.inner, wish.outer)))
            self.assertIs(one <= other, set(some) <= set(others))
            self.assertIs(one < other, set(some) < set(others))
            self.assertIs(one == other, set(some) == set(others))
            self.assertIs(one != other, set(some) != set(others))
            kept = one
            one |= other
            self.assertEqual([one, kept], [kept | other, Wishes(*some.values())])
            one = kept
            one &= other
            self.assertEqual([one, kept], [kept & other, Wishes(*some.values())])
            one = kept
            one -= other
            self.assertEqual([one, kept], [kept - other, Wishes(*some.values())])

    def test_what_is_no_wishes_on_the_right(self):
        one = wishes_of("x in f")
        for value in values(lambda value: isinstance(value, Wishes)):
            for work in [
                lambda: one | value, lambda: one & value, lambda: one - value, lambda: one <= value, lambda: one < value,
                lambda: Wishes() <= value, lambda: Wishes() & value,
            ]:
                self.refused(BadWish("wishes"), work)

    def test_in_place_with_wrong_values(self):
        for value in [None, Wish("x", "f"), (), {}, Stack()]:
            one = kept = wishes_of("x in f")
            with self.assertRaises(BadWish):
                one |= value
            with self.assertRaises(BadWish):
                one &= value
            with self.assertRaises(BadWish):
                one -= value
            self.assertEqual(one, kept)

    def test_equality(self):
        self.only_equal_to_itself(lambda: wishes_of("x in f", "choice in x"))
        self.assertEqual(wishes_of("x in f", "choice in x"), wishes_of("choice in x", "x in f"))
        self.assertNotEqual(wishes_of("x in f"), wishes_of("f in x"))
        self.assertNotEqual(wishes_of("x in f"), wishes_of("x in f", "choice in x"))

    def test_of_stack(self):
        for stack in [Stack(), Stack(X), Stack(X, Y, L), *orders(X, L, F, C), Stack(X, F, L, G, C, Y)]:
            expected = [wish for wish in possible(list(stack)) if kept_by(stack, [wish])]
            for found in [Wishes.of_stack(stack), Wishes.of_stack(stack=stack)]:
                self.assertEqual(found, Wishes(*expected))
                self.assertIs(found.hold(stack), True)
        for value in values(lambda value: isinstance(value, Stack)):
            self.refused(BadStack("stack"), Wishes.of_stack, value)

    def test_hold_and_broken(self):
        for stack, wishes in some_wishes(300, [[X, F, C], [X, L, F, C], [X, Y, F, G, C]]):
            self.assertIs(wishes.hold(stack), kept_by(stack, wishes))
            self.assertIs(wishes.hold(stack=stack), kept_by(stack, wishes))
            self.same([str(wish) for wish in wishes.broken(stack)], [str(wish) for wish in wishes if not kept_by(stack, [wish])])
            self.assertIs(type(wishes.broken(stack=stack)), tuple)
        self.assertEqual([Wishes().hold(FOUR), Wishes().broken(FOUR)], [True, ()])

    def test_errors_of_the_first_wish_that_raises(self):
        stack = Stack(X, Y, F)
        for texts, error in [
            (["x in q"], NoName("q")), (["x in f", "x in q"], NoName("q")), (["f in x", "x in y"], BadWish("pair")),
            (["q in x", "a in b", "x in y"], NoName("a")), (["x in y", "x in choice"], NoName("choice")), (["y in x", "x in q"], NoName("q")),
        ]:
            for work in [wishes_of(*texts).hold, wishes_of(*texts).broken]:
                self.refused(error, work, stack)
            for work in [stack_for, nearest, lambda stack, wishes: shows_near(stack, wishes, None)]:
                self.refused(error, work, stack, wishes_of(*texts))
        for value in values(lambda value: isinstance(value, Stack)):
            for wishes in [Wishes(), wishes_of("x in q")]:
                self.refused(BadStack("stack"), wishes.hold, value)
                self.refused(BadStack("stack"), wishes.broken, value)


class SearchTest(LayerCase):
    SETS = [[], [X], [X, F], [F, C], [X, L, F], [X, F, C], [Y, X, F, C], [X, L, F, G], [X, F, G, C], [X, Y, F, G, C], [X, L, C, F, G]]

    def test_papers(self):
        self.is_paper(Ring, truth=False)
        self.is_paper(Near)
        for made in [Ring, Near]:
            self.assertIn("__bool__", vars(made))

    def test_stack_for_and_nearest_against_all_stacks(self):
        for stack, wishes in some_wishes(500, self.SETS):
            ring = ring_of(wishes)
            if ring is None:
                keeping = [row for row in classes(stack) if kept_by(row, wishes)]
                for found in [stack_for(stack, wishes), stack_for(stack=stack, wishes=wishes)]:
                    self.assertEqual(found, keeping[0])
                self.check_near(stack, wishes, keeping)
            else:
                self.assertFalse([row for row in classes(stack) if kept_by(row, wishes)])
                for found in [stack_for(stack, wishes), nearest(stack, wishes), nearest(stack=stack, wishes=wishes)]:
                    self.assertIs(type(found), Ring)
                    self.same(found.names, ring)
                    self.assertIs(shows_ring(wishes, found), True)

    def test_rings_of_many_wishes(self):
        dice = random.Random(9)
        handlers = [X, Y, L, F, G, C, Cell("a"), Failure("c")]
        wishes = possible(handlers)
        sizes = []
        for turn in range(3000):
            some = Wishes(*dice.sample(wishes, dice.randrange(2, 16)))
            if turn % 2:
                # A ring of some length that is there for sure, and few other wishes.
                row = dice.sample(handlers, dice.randrange(2, 9))
                if not all(one.meets(other) for one, other in zip(row, row[1:] + row[:1])):
                    continue
                around = [Wish(one.name, other.name) for one, other in zip(row, row[1:] + row[:1])]
                some = Wishes(*around, *dice.sample(wishes, dice.randrange(4)))
            ring = ring_of(some)
            found = stack_for(Stack(*handlers), some)
            if ring is None:
                self.assertTrue(kept_by(found, some))
            else:
                self.same(found, Ring(ring))
                self.assertIs(shows_ring(some, found), True)
                sizes.append(len(ring))
        self.assertGreater(len(set(sizes)), 4)

    def test_the_least_ring_is_the_shortest_one(self):
        stack = Stack(X, F, G, C, Y)
        for texts, names in [
            (["choice in x", "x in f", "f in choice", "g in x", "x in g"], ("g", "x")), (["x in f", "f in x", "y in f", "f in y"], ("f", "x")),
            (["choice in x", "x in f", "f in choice"], ("choice", "x", "f")), (["x in f", "f in y", "y in choice", "choice in x"], ("choice", "x", "f", "y")),
            (["x in f", "f in y", "y in choice", "choice in x", "y in g", "g in x", "f in choice"], ("choice", "x", "f")),
        ]:
            self.assertEqual(stack_for(stack, wishes_of(*texts)), Ring(names))
            self.assertEqual(nearest(stack, wishes_of(*texts)), Ring(names))

    def check_near(self, stack, wishes, keeping):
        found = nearest(stack, wishes)
        many = min(apart(stack, row) for row in keeping)
        self.assertIs(type(found), Near)
        self.same(found.many, many)
        self.assertEqual(found.stack, [row for row in keeping if apart(stack, row) == many][0])
        self.assertTrue(all(type(name) is tuple for name in found.floors))
        self.assertTrue(are_floors(stack, wishes, found.floors, many))
        self.assertIs(shows_near(stack, wishes, found), True)
        self.assertIs(shows_near(stack=stack, wishes=wishes, value=found), True)

    def test_of_ten_handlers(self):
        handlers = [Cell("b"), Cell("d", 3), X, Cell("zz"), Log("a"), L, Failure("c"), F, Failure("y"), C]
        stack = Stack(*handlers)
        wishes = Wishes(*[~wish for wish in Wishes.of_stack(stack)])
        found = nearest(stack, wishes)
        self.assertEqual([found.stack, found.many], [normal(~stack), 27])
        self.assertEqual(stack_for(stack, wishes), normal(~stack))
        self.assertIs(shows_near(stack, wishes, found), True)
        self.assertEqual(nearest(stack, Wishes()), Near(normal(stack), 0, nearest(stack, Wishes()).floors))
        self.assertEqual(str(stack_for(stack, Wishes(Wish("a", "y"), Wish("choice", "x")))).split(", ")[:3], ["cell b 2", "failure c", "cell d 3"])
        self.assertEqual(len(nearest(stack, Wishes()).floors), 1024)

    def test_no_rings_among_wishes_that_stand_in_a_row(self):
        wishes = wishes_of("x in f", "choice in x", "g in x", "l in g", "y in g", "y in choice")
        self.assertEqual(str(stack_for(Stack(C, Y, L, G, X, F), wishes)), "failure f, cell x 2, choice, failure g, log l, cell y 3")

    def test_wrong_values_in_order(self):
        ways = [stack_for, nearest, lambda stack, wishes: shows_near(stack, wishes, 3)]
        for work in ways:
            for value in values(lambda value: isinstance(value, Stack)):
                self.refused(BadStack("stack"), work, value, None)
                self.refused(BadStack("stack"), work, value, wishes_of("x in q"))
            for value in values(lambda value: isinstance(value, Wishes)):
                self.refused(BadWish("wishes"), work, FOUR, value)
            self.refused(NoName("q"), work, FOUR, wishes_of("x in q", "x in y"))
            self.refused(BadWish("pair"), work, FOUR, wishes_of("x in y", "y in q"))


class ShowsRingTest(LayerCase):
    WISHES = wishes_of("choice in x", "x in f", "f in choice", "x in g", "g in x", "y in f")

    def test_rings(self):
        for names, shown in [
            (("choice", "x", "f"), True), (("x", "f", "choice"), True), (("g", "x"), True), (("x", "g"), True), (("f", "choice", "x"), True),
            (("x", "choice", "f"), False), (("x",), False), ((), False), (("choice", "x", "g", "x", "f"), False), (("x", "g", "x", "g"), False),
            (("y", "f"), False), (("choice", "x", "f", "choice", "x", "f"), False), (["x", "g"], False), ("xg", False), (("x", "x"), False),
            (("a", "b"), False), (("x", None), False), ((1, 2), False),
        ]:
            self.assertIs(shows_ring(self.WISHES, Ring(names)), shown)
            self.assertIs(shows_ring(wishes=self.WISHES, value=Ring(names)), shown)
        self.assertIs(shows_ring(Wishes(), Ring(("x", "g"))), False)

    def test_of_handlers_that_no_stack_has(self):
        # A ring is one of the wishes alone; whether handlers interact plays no part.
        self.assertIs(shows_ring(wishes_of("a in b", "b in c", "c in a"), Ring(("b", "c", "a"))), True)

    def test_any_values(self):
        for value in values():
            self.assertIs(shows_ring(self.WISHES, value), False)
            self.assertIs(shows_ring(self.WISHES, Ring(value)), False)
            self.assertIs(shows_ring(self.WISHES, Ring((value, "x"))), False)
            self.assertIs(shows_ring(self.WISHES, Ring(("x", value))), False)
        for value in values(lambda value: isinstance(value, Wishes)):
            self.refused(BadWish("wishes"), shows_ring, value, Ring(("x", "g")))
            self.refused(BadWish("wishes"), shows_ring, value, None)


class ShowsNearTest(LayerCase):
    WISHES = wishes_of("x in f", "choice in x")

    def test_stacks_that_are_not_normal(self):
        stack = Stack(X, L, F)
        wishes = wishes_of("x in f")
        found = nearest(stack, wishes)
        self.assertEqual([str(found.stack), found.many], ["log l, failure f, cell x 2", 1])
        far = Stack(F, X, L)
        wide = {**found.floors, ("f", "l", "x"): 2}
        self.assertIs(shows_near(stack, wishes, Near(far, 2, wide)), False)
        for row in [Stack(Y, L, F, X, C), Stack(L, Y, F, X, C)]:
            near = nearest(Stack(X, Y, L, F, C), wishes)
            self.assertIs(shows_near(Stack(X, Y, L, F, C), wishes, Near(row, near.many, near.floors)), True)

    def test_other_floors(self):
        near = nearest(FOUR, self.WISHES)
        self.assertEqual(near.many, 1)
        for names in near.floors:
            for number in [-70, -1, 0, 1, 2, 5]:
                floors = {**near.floors, names: number}
                expected = are_floors(FOUR, self.WISHES, floors, near.many)
                self.assertIs(shows_near(FOUR, self.WISHES, Near(near.stack, near.many, floors)), expected)
        self.assertIs(shows_near(FOUR, self.WISHES, Near(near.stack, 1, {**near.floors, ("f",): -3})), False)
        low = {names: number if names in [(), ("choice", "f", "x", "y")] else -9 for names, number in near.floors.items()}
        self.assertIs(shows_near(FOUR, self.WISHES, Near(near.stack, 1, low)), are_floors(FOUR, self.WISHES, low, 1))

    def test_bent_in_one_part(self):
        near = nearest(FOUR, self.WISHES)
        stack, many, floors = near.stack, near.many, near.floors
        lacking = {names: floors[names] for names in floors if names != ("f",)}
        for bent in [
            (FOUR, many, floors), (FOUR, 0, floors), (stack, 0, floors), (stack, 2, floors), (stack, True, floors), (stack, "1", floors),
            (stack, many, lacking), (stack, many, {**floors, ("x",): 0}), (stack, many, {**lacking, ("g",): 0}), (stack, many, {}),
            (stack, many, {**floors, (): False}), (stack, many, {**floors, ("choice", "f", "x", "y"): True}), (stack, many, {**floors, ("y",): None}),
            (stack, many, {**lacking, "f": 0}), (stack, many, list(floors.items())), (stack - "y", many, floors), (stack + L, many, floors),
            (Stack(Cell("y"), *stack[1:]), many, floors), (str(stack), many, floors), (list(stack), many, floors), (None, None, None),
            (stack, many, {**lacking, ("f", "f"): 0}), (stack, many, {**floors, ("y", "f"): 0}), (~stack, many, floors),
        ]:
            self.assertIs(shows_near(FOUR, self.WISHES, Near(*bent)), False, bent)
        self.assertIs(shows_near(FOUR, self.WISHES, Near(stack, many, dict(reversed(list(floors.items()))))), True)
        self.assertIs(shows_near(~FOUR, self.WISHES, near), False)

    def test_stacks_that_break_a_wish(self):
        near = nearest(FOUR, Wishes())
        self.assertIs(shows_near(FOUR, Wishes(), near), True)
        self.assertIs(shows_near(FOUR, self.WISHES, near), False)
        ring = self.WISHES | wishes_of("f in choice")
        self.assertIs(shows_near(FOUR, ring, near), False)

    def test_stacks_that_differ_in_more_or_in_other_pairs(self):
        wishes = wishes_of("x in f")
        near = nearest(FOUR, wishes)
        self.assertEqual([str(near.stack), near.many], ["cell y 3, failure f, cell x 2, choice", 1])
        for row in [[X, F, Y, C], [X, Y, C, F], [F, X, Y, C], [F, Y, X, C], [Y, F, C, X], [X, Y, F, C]]:
            self.assertIs(shows_near(FOUR, wishes, Near(Stack(*row), 1, near.floors)), False)
            self.assertIs(shows_near(FOUR, wishes, Near(Stack(*row), apart(FOUR, Stack(*row)), near.floors)), False)

    def test_the_empty_stack(self):
        self.assertEqual(nearest(Stack(), Wishes()), Near(Stack(), 0, {(): 0}))
        self.assertIs(shows_near(Stack(), Wishes(), Near(Stack(), 0, {(): 0})), True)
        for bent in [(Stack(), 0, {}), (Stack(), 0, {(): 1}), (Stack(), 1, {(): 1}), (Stack(), False, {(): 0}), (Stack(), 0, {(): False})]:
            self.assertIs(shows_near(Stack(), Wishes(), Near(*bent)), False)
        self.assertEqual(stack_for(Stack(), Wishes()), Stack())

    def test_any_values(self):
        near = nearest(FOUR, self.WISHES)
        for value in values():
            self.assertIs(shows_near(FOUR, self.WISHES, value), False)
            for bent in [(value, near.many, near.floors), (near.stack, near.many, value)]:
                self.assertIs(shows_near(FOUR, self.WISHES, Near(*bent)), False)
            self.assertIs(shows_near(FOUR, self.WISHES, Near(near.stack, value, near.floors)), same(value, 1))
            self.assertIs(shows_near(FOUR, self.WISHES, Near(near.stack, near.many, {**near.floors, ("f",): value})), same(value, 0))
