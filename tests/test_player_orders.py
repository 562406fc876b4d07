"""The player against the second player, under all orders of stacks; and what the orders alone tell."""

import itertools
import random

from layerseen.errors import TooMany
from layerseen.player import ends, trace
from layerseen.programs import Catch, Choose, Copy, Fail, If, Leave, Program, Put, Say, Stop
from layerseen.stacks import Stack
from tests.oracle_player import model_of
from tests.support import LayerCase

HANDLERS = Stack.read("cell x 2, cell y 3, log l, failure f, failure g, choice")
ORDERS = [Stack(*row) for row in itertools.permutations(HANDLERS)]


def outcome(program, stack):
    """The ends, the trail, and the fields of the TooMany of a run of the player."""
    refused, found = None, ()
    try:
        found = ends(program, stack)
    except TooMany as error:
        refused = (error.what, error.most)
    trail = []
    try:
        for deed in trace(program, stack):
            trail.append(deed)
        traced = None
    except TooMany as error:
        traced = (error.what, error.most)
    assert traced == refused
    return found, trail, refused


def random_deed(dice, depth):
    simple = [
        lambda: Put("x", dice.randrange(2)), lambda: Put("y", dice.randrange(3)), lambda: Copy("x", "y"),
        lambda: Copy("y", "x"), lambda: Say("l", dice.choice("abc")), lambda: Fail("f"), lambda: Fail("g"),
        lambda: Fail(dice.choice("fg")), Leave, lambda: dice.choice([Stop(), Put("y", 2)]),
    ]
    if depth == 0 or dice.random() < 0.5:
        return dice.choice(simple)()
    block, other = random_program(dice, depth - 1), random_program(dice, depth - 1)
    return dice.choice([
        lambda: If(dice.choice("xy"), dice.randrange(2), block, other), lambda: Catch("f", block, other),
        lambda: Catch("g", block, other), lambda: Catch(dice.choice("fg"), block, other),
        lambda: Choose(block, other), lambda: Choose(block, other),
    ])()


def random_program(dice, depth):
    while True:
        try:
            return Program(*[random_deed(dice, depth) for turn in range(dice.randrange(1, 4))])
        except TooMany:
            pass


class OrdersTest(LayerCase):
    def agrees(self, program, stack):
        found = outcome(program, stack)
        expected = model_of(program, stack)
        if expected[2] is not None:
            expected = ((), *expected[1:])
        self.assertEqual(found, expected, f"{program} under {stack}")

    def test_small_programs_under_all_orders(self):
        for text in [
            "choose ( put x 1 ) or ( skip ) ; say l a ; copy y x", "put x 1 ; say l a ; fail f",
            "choose ( put x 1 ; fail f ) or ( say l a ) ; put y 2",
            "catch f ( choose ( put x 1 ; fail f ) or ( say l a ) ) else ( put y 1 ) ; say l b",
            "catch g ( catch f ( choose ( fail g ) or ( put x 1 ) ) else ( skip ) ; say l b ) else ( copy y x )",
            "catch f ( catch g ( choose ( fail f ) or ( put x 1 ; fail g ) ) else ( say l c ; fail f ) ) else ( copy y x )",
            "catch f ( put x 1 ; catch f ( put y 1 ; fail f ) else ( say l a ; fail f ) ) else ( say l b ; copy y x )",
            "choose ( say l a ) or ( catch f ( choose ( stop ) or ( put x 1 ) ) else ( skip ) ) ; put y 1",
            "choose ( say l a ) or ( catch f ( choose ( put x 1 ) or ( stop ) ) else ( skip ) ) ; put y 1",
            "catch f ( choose ( none ) or ( none ) ) else ( skip ) ; say l a",
            "catch f ( fail f ) else ( choose ( put x 1 ) or ( fail g ) ) ; say l a",
            "catch f ( choose ( say l a ) or ( choose ( fail g ) or ( fail f ) ) ) else ( choose ( put y 1 ) or ( put y 2 ) )",
            "catch g ( choose ( fail f ) or ( fail g ) ) else ( say l a ) ; choose ( fail g ) or ( put x 1 )",
            "choose ( put x 1 ) or ( put x 0 ) ; choose ( catch f ( say l a ; fail g ) else ( skip ) ) or ( fail f )",
        ]:
            for stack in ORDERS:
                self.agrees(Program.read(text), stack)

    def test_many_programs_under_some_orders(self):
        dice = random.Random(11)
        for turn in range(1500):
            program = random_program(dice, 3)
            for stack in dice.sample(ORDERS, 4):
                self.agrees(program, stack)

    def test_without_a_choice_and_without_failures(self):
        dice = random.Random(12)
        without = [Stack(*row) for row in itertools.permutations(HANDLERS - "choice")]
        tried = 0
        while tried < 300:
            program = random_program(dice, 3)
            if not program.chooses:
                tried += 1
                self.agrees(program, dice.choice(without))

    def test_exchanges_of_neighbours_that_do_not_interact(self):
        dice = random.Random(13)
        changed = 0
        for turn in range(300):
            program = random_program(dice, 3)
            stack = dice.choice(ORDERS)
            for k in range(len(stack) - 1):
                other = stack.exchanged(k)
                if not stack[k].meets(stack[k + 1]):
                    self.assertEqual(outcome(program, stack), outcome(program, other))
                else:
                    changed += outcome(program, stack) != outcome(program, other)
        self.assertGreater(changed, 50)
