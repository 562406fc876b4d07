"""What is seen of programs, rule by rule."""

from layerseen.ends import End, ends_text
from layerseen.errors import BadProgram, BadStack, TooMany, Unfit
from layerseen.handlers import Cell
from layerseen.player import ends, trace
from layerseen.programs import Catch, Choose, Deed, Fail, If, Leave, Program, Put, Say, Stop
from layerseen.stacks import Stack
from tests.oracle_player import Model, model_of
from tests.support import LayerCase, values


class PlayerCase(LayerCase):
    def seen(self, text, row, expected, trail=None):
        """What is seen of a program under a stack, and if it is told the deeds that are run."""
        program, stack = Program.read(text), Stack.read(row)
        self.assertEqual(ends_text(ends(program, stack)), expected)
        if trail is not None:
            self.assertEqual(" ; ".join(map(str, trace(program, stack))), trail)


class DeedsTest(PlayerCase):
    def test_without_deeds(self):
        self.seen("skip", "-", "done", "")
        self.seen("skip", "cell y 2, log l, choice, cell x 4, failure f", "done ; x 0 ; y 0 ; l -", "")
        self.assertEqual(ends(Program(), Stack()), (End(None, {}, {}),))

    def test_an_end_tells_all_cells_and_logs_by_ascending_names(self):
        found = ends(Program.read("put b 1 ; say m w"), Stack.read("log m, cell b 2, choice, log l, cell a 2, failure c"))
        self.assertEqual(found, (End(None, {"a": 0, "b": 1}, {"l": (), "m": ("w",)}),))
        self.same(found[0].cells, {"a": 0, "b": 1})
        self.same(found[0].logs, {"l": (), "m": ("w",)})
        self.assertIs(type(found), tuple)

    def test_put_and_say(self):
        self.seen("put x 3 ; put y 1 ; put x 2", "cell x 4, cell y 2", "done ; x 2 ; y 1", "put x 3 ; put y 1 ; put x 2")
        self.seen("say l a ; say m b ; say l put ; say l a", "log l, log m", "done ; l a put a ; m b")

    def test_copy(self):
        for value, size, copied in [(3, 4, 3), (3, 3, 2), (3, 2, 1), (2, 3, 2), (1, 2, 1), (2, 2, 1), (0, 2, 0), (1, 4, 1)]:
            self.seen(f"put y {value} ; copy x y", f"cell x {size}, cell y 4", f"done ; x {copied} ; y {value}")
        self.seen("put x 1 ; copy x x", "cell x 2", "done ; x 1", "put x 1 ; copy x x")
        self.seen("put x 1 ; copy x y", "cell x 2, cell y 2", "done ; x 0 ; y 0")

    def test_if(self):
        for value, taken in [(0, "b"), (1, "a"), (2, "b")]:
            self.seen(
                f"put x {value} ; if x = 1 ( say l a ) else ( say l b ) ; say l c", "cell x 3, log l",
                f"done ; x {value} ; l {taken} c", f"put x {value} ; say l {taken} ; say l c",
            )
        self.seen("if x = 0 ( put x 1 ) else ( skip ) ; if x = 0 ( say l a ) else ( skip )", "cell x 2, log l", "done ; x 1 ; l -")

    def test_none(self):
        self.seen("put x 1 ; none ; put x 0", "cell x 2", "-", "put x 1 ; none")
        self.seen("choose ( none ) or ( put x 1 ) ; say l a", "choice, cell x 2, log l", "done ; x 1 ; l a", "none ; put x 1 ; say l a")
        self.seen("choose ( put x 1 ; none ) or ( skip )", "cell x 2, choice", "done ; x 1")
        self.seen("choose ( put x 1 ; none ) or ( skip )", "choice, cell x 2", "done ; x 0")

    def test_choose(self):
        text = "choose ( put x 1 ; say l a ) or ( say l b ) ; say l c"
        trail = "put x 1 ; say l a ; say l c ; say l b ; say l c"
        self.seen(text, "choice, cell x 2, log l", "done ; x 1 ; l a c / done ; x 0 ; l b c", trail)
        self.seen(text, "cell x 2, choice, log l", "done ; x 1 ; l a c / done ; x 1 ; l b c", trail)
        self.seen(text, "log l, choice, cell x 2", "done ; x 1 ; l a c / done ; x 0 ; l a c b c", trail)
        self.seen(text, "log l, cell x 2, choice", "done ; x 1 ; l a c / done ; x 1 ; l a c b c", trail)

    def test_the_first_block_and_all_that_follows_come_first(self):
        text = "choose ( say l a ) or ( say l b ) ; choose ( say l c ) or ( say l d )"
        self.seen(text, "choice, log l", "done ; l a c / done ; l a d / done ; l b c / done ; l b d")
        self.seen(text, "log l, choice", "done ; l a c / done ; l a c d / done ; l a c d b c / done ; l a c d b c d")

    def test_a_branch_has_the_own_things_as_they_were_at_the_choose(self):
        self.seen(
            "put x 1 ; choose ( put x 0 ; put y 1 ) or ( skip ) ; put x 2", "choice, cell x 3, cell y 2",
            "done ; x 2 ; y 1 / done ; x 2 ; y 0",
        )
        self.seen("put x 1 ; choose ( put x 0 ) or ( skip )", "choice, cell x 2", "done ; x 0 / done ; x 1")

    def test_stop(self):
        self.seen("put x 1 ; stop ; put x 0", "cell x 2", "done ; x 1", "put x 1 ; stop")
        self.seen(
            "choose ( put x 1 ) or ( choose ( say l a ; stop ) or ( say l b ) )", "choice, cell x 2, log l",
            "done ; x 1 ; l - / done ; x 0 ; l a", "put x 1 ; say l a ; stop",
        )
        self.seen("choose ( stop ) or ( skip )", "choice", "done")
        self.seen("catch f ( stop ) else ( put x 1 ) ; put x 1", "failure f, cell x 2", "done ; x 0", "stop")


class InnerFailureTest(PlayerCase):
    def test_what_nothing_catches(self):
        self.seen("put x 1 ; say l a ; fail f ; put x 0", "cell x 2, failure f, log l", "failed f ; x 1 ; l -", "put x 1 ; say l a ; fail f")
        self.seen("put x 1 ; say l a ; fail f", "log l, failure f, cell x 2", "failed f ; x 0 ; l a")
        self.seen("put x 1 ; fail f", "failure f, cell x 2", "failed f ; x 0")
        self.seen("fail f", "failure f", "failed f")

    def test_the_other_branches_go_on(self):
        self.seen(
            "choose ( put x 1 ; fail f ) or ( say l a )", "choice, failure f, cell x 2, log l",
            "failed f ; x 0 ; l - / done ; x 0 ; l a",
        )
        self.seen("choose ( put x 1 ; fail f ) or ( skip )", "choice, cell x 2, failure f", "failed f ; x 1 / done ; x 0")
        self.seen("choose ( put x 1 ; fail f ) or ( skip )", "cell x 2, choice, failure f", "failed f ; x 1 / done ; x 1")
        self.seen("choose ( skip ) or ( fail f )", "choice, failure f", "done / failed f")

    def test_it_goes_on_with_the_else_part_then_with_what_follows(self):
        text = "put x 1 ; catch f ( put x 2 ; say l a ; fail f ; say l b ) else ( say l c ) ; say l d"
        self.seen(text, "failure f, cell x 3, log l", "done ; x 1 ; l c d", "put x 1 ; put x 2 ; say l a ; fail f ; say l c ; say l d")
        self.seen(text, "cell x 3, failure f, log l", "done ; x 2 ; l c d")
        self.seen(text, "log l, failure f, cell x 3", "done ; x 1 ; l a c d")
        self.seen(text, "log l, cell x 3, failure f", "done ; x 2 ; l a c d")

    def test_a_block_that_does_not_fail(self):
        self.seen("catch f ( put x 1 ) else ( put x 2 ) ; say l a", "failure f, cell x 3, log l", "done ; x 1 ; l a")
        self.seen("catch f ( put x 1 ) else ( skip ) ; fail f", "failure f, cell x 2", "failed f ; x 0", "put x 1 ; fail f")

    def test_the_nearest_catch_of_this_failure(self):
        row = "failure f, failure g, log l"
        self.seen("catch f ( catch f ( fail f ) else ( say l a ) ; say l b ) else ( say l c )", row, "done ; l a b")
        self.seen("catch f ( catch g ( fail f ) else ( say l a ) ; say l b ) else ( say l c )", row, "done ; l c")
        self.seen("catch g ( catch f ( fail g ) else ( say l a ) ; say l b ) else ( say l c )", row, "done ; l c")
        self.seen("catch g ( fail f ) else ( say l c )", "log l, failure f, failure g", "failed f ; l -")

    def test_an_else_part_is_not_within_its_own_catch(self):
        row = "log l, failure f"
        self.seen("catch f ( fail f ) else ( say l a ; fail f )", row, "failed f ; l a")
        self.seen("catch f ( catch f ( fail f ) else ( say l a ; fail f ) ) else ( say l b )", row, "done ; l a b")

    def test_what_is_taken_back_is_as_it_was_at_the_catch(self):
        self.seen(
            "put x 1 ; catch f ( put x 2 ; catch g ( put x 3 ; fail f ) else ( skip ) ) else ( skip )",
            "failure f, failure g, cell x 4", "done ; x 1",
        )
        self.seen(
            "catch f ( put x 1 ; catch g ( put x 2 ; put y 2 ; fail g ) else ( copy z x ) ) else ( skip )",
            "cell y 3, failure g, failure f, cell x 3, cell z 3", "done ; x 1 ; y 2 ; z 1",
        )

    def test_both_branches_of_a_choose_in_a_block_are_caught(self):
        self.seen(
            "put x 1 ; catch f ( choose ( put x 0 ; fail f ) or ( put x 2 ; fail f ) ) else ( say l a ) ; say l b",
            "choice, log l, failure f, cell x 3", "done ; x 1 ; l a b / done ; x 1 ; l a b",
        )
        self.seen(
            "catch f ( choose ( put x 1 ) or ( put x 2 ) ; fail f ) else ( say l a )",
            "choice, cell x 3, failure f, log l", "done ; x 1 ; l a / done ; x 2 ; l a",
        )

    def test_shared_things_are_kept(self):
        self.seen(
            "catch f ( put x 1 ; put y 1 ; fail f ) else ( skip ) ; choose ( skip ) or ( skip )",
            "cell x 2, choice, failure f, cell y 2", "done ; x 1 ; y 0 / done ; x 1 ; y 0",
        )


class OuterFailureTest(PlayerCase):
    def test_what_nothing_catches_drops_all_ends(self):
        text = "choose ( put x 1 ) or ( choose ( put y 1 ; say l a ; fail f ) or ( put x 2 ) ) ; say l b"
        trail = "put x 1 ; say l b ; put y 1 ; say l a ; fail f"
        self.seen(text, "cell x 3, log l, failure f, choice, cell y 2", "failed f ; x 1 ; y 0 ; l b a", trail)
        self.seen(text, "cell x 3, failure f, log l, choice, cell y 2", "failed f ; x 1 ; y 0 ; l -", trail)
        self.seen(text, "failure f, cell x 3, log l, cell y 2, choice", "failed f ; x 0 ; y 0 ; l -", trail)
        self.seen(text, "cell y 2, failure f, choice, cell x 3, log l", "failed f ; x 0 ; y 1 ; l -", trail)

    def test_a_catch_gathers_its_block_ahead_of_what_follows(self):
        text = "catch f ( choose ( put x 1 ; say l a ) or ( say l b ) ) else ( skip ) ; copy y x ; say l c"
        trail = "put x 1 ; say l a ; say l b ; copy y x ; say l c ; copy y x ; say l c"
        self.seen(text, "failure f, choice, cell x 2, cell y 2, log l", "done ; x 1 ; y 1 ; l a c / done ; x 0 ; y 0 ; l b c", trail)
        self.seen(text, "cell x 2, log l, failure f, choice, cell y 2", "done ; x 1 ; y 1 ; l a b c / done ; x 1 ; y 1 ; l a b c c", trail)

    def test_a_catch_of_an_inner_failure_does_not_gather(self):
        self.seen(
            "catch f ( choose ( say l a ) or ( say l b ) ) else ( skip ) ; say l c", "log l, choice, failure f",
            "done ; l a c / done ; l a c b c", "say l a ; say l c ; say l b ; say l c",
        )

    def test_each_result_goes_on_with_its_own_things_and_the_shared_ones_as_they_are_then(self):
        self.seen(
            "catch f ( choose ( put x 1 ) or ( put x 2 ) ) else ( skip ) ; copy z y ; put y 1", "cell y 2, failure f, choice, cell x 3, cell z 2",
            "done ; x 1 ; y 1 ; z 0 / done ; x 2 ; y 1 ; z 1",
        )

    def test_a_block_without_results(self):
        self.seen("catch f ( choose ( none ) or ( none ) ) else ( put x 1 ) ; put x 1", "cell x 2, failure f, choice", "-", "none ; none")
        self.seen("choose ( catch f ( none ) else ( skip ) ; say l a ) or ( say l b )", "failure f, choice, log l", "done ; l b")

    def test_its_catch_drops_the_results_and_the_waiting_branches(self):
        text = "catch f ( choose ( say l a ) or ( choose ( put x 1 ; fail f ) or ( say l b ) ) ) else ( say l c ) ; say l d"
        trail = "say l a ; put x 1 ; fail f ; say l c ; say l d"
        self.seen(text, "log l, cell x 2, failure f, choice", "done ; x 1 ; l a c d", trail)
        self.seen(text, "log l, failure f, cell x 2, choice", "done ; x 0 ; l a c d", trail)
        self.seen(text, "failure f, log l, choice, cell x 2", "done ; x 0 ; l c d", trail)

    def test_only_what_the_block_has_come_to_is_dropped(self):
        self.seen(
            "choose ( say l a ) or ( catch f ( say l b ; fail f ) else ( say l c ) ) ; say l d", "failure f, choice, log l",
            "done ; l a d / done ; l c d",
        )
        self.seen(
            "choose ( catch f ( fail f ) else ( skip ) ) or ( say l a )", "failure f, choice, log l", "done ; l - / done ; l a",
        )

    def test_shared_things_are_taken_back_to_the_catch_of_this_branch(self):
        self.seen(
            "choose ( put x 1 ) or ( put y 1 ; catch f ( put x 2 ; put y 2 ; fail f ) else ( skip ) ) ; copy z x",
            "failure f, cell x 3, choice, cell y 3, cell z 3", "done ; x 1 ; y 0 ; z 1 / done ; x 1 ; y 1 ; z 1",
        )
        self.seen(
            "put x 1 ; put y 1 ; catch f ( put x 0 ; choose ( put y 2 ; put x 2 ) or ( fail f ) ) else ( skip )",
            "cell x 3, failure f, cell y 3, choice", "done ; x 2 ; y 1",
        )

    def test_the_else_part_is_gathered_too(self):
        self.seen(
            "catch f ( fail f ) else ( choose ( say l a ) or ( say l b ) ) ; say l c", "log l, failure f, choice",
            "done ; l a b c / done ; l a b c c", "fail f ; say l a ; say l b ; say l c ; say l c",
        )
        self.seen("catch f ( fail f ) else ( choose ( fail g ) or ( say l b ) ) ; say l c", "failure f, choice, failure g, log l", "failed g ; l - / done ; l b c")

    def test_an_else_part_is_not_within_its_own_catch(self):
        row = "log l, failure f, choice"
        self.seen("say l z ; catch f ( fail f ) else ( say l a ; fail f ) ; say l b", row, "failed f ; l z a")
        self.seen("catch f ( catch f ( fail f ) else ( say l a ; fail f ) ; say l b ) else ( say l c )", row, "done ; l a c")

    def test_the_nearest_catch_of_this_failure(self):
        row = "log l, failure f, failure g, choice"
        self.seen("catch f ( catch g ( fail f ) else ( say l a ) ; say l b ) else ( say l c )", row, "done ; l c")
        self.seen("catch g ( catch f ( fail g ) else ( say l a ) ; say l b ) else ( say l c )", row, "done ; l c")
        self.seen("catch f ( catch f ( fail f ) else ( say l a ) ; say l b ) else ( say l c )", row, "done ; l a b")
        self.seen("catch f ( say l a ) else ( say l c ) ; fail f", row, "failed f ; l a")

    def test_behind_the_block_the_catch_is_over(self):
        self.seen(
            "catch f ( choose ( say l a ) or ( say l b ) ) else ( say l c ) ; say l d ; fail f", "log l, failure f, choice",
            "failed f ; l a b d", "say l a ; say l b ; say l d ; fail f",
        )

    def test_an_inner_failure_waits_for_its_turn(self):
        text = "catch g ( catch f ( choose ( fail g ) or ( put x 1 ) ) else ( skip ) ; say l b ) else ( copy y x )"
        self.seen(
            text, "cell x 2, cell y 2, failure f, choice, failure g, log l", "done ; x 1 ; y 1 ; l - / done ; x 1 ; y 1 ; l b",
            "fail g ; put x 1 ; copy y x ; say l b",
        )

    def test_a_failure_that_waits_takes_back_when_its_turn_comes(self):
        self.seen(
            "put z 1 ; catch g ( put z 2 ; catch f ( choose ( say l a ) or ( put z 3 ; fail g ) ) else ( skip ) ; put x 1 ) else ( copy y x )",
            "cell x 2, failure f, choice, log l, cell y 2, failure g, cell z 4",
            "done ; x 1 ; y 0 ; z 2 ; l a / done ; x 1 ; y 1 ; z 1 ; l -",
        )

    def test_an_inner_failure_that_nothing_catches_leaves_each_gathered_block(self):
        self.seen(
            "catch f ( catch h ( choose ( put x 1 ; fail g ) or ( say l a ) ) else ( skip ) ; say l b ) else ( skip ) ; say l c",
            "failure f, failure h, choice, cell x 2, failure g, log l", "failed g ; x 1 ; l - / done ; x 0 ; l a b c",
        )

    def test_a_catch_within_the_block_catches_at_once(self):
        self.seen(
            "catch f ( catch g ( say l a ; fail g ) else ( say l b ) ; say l c ) else ( skip ) ; say l d",
            "failure f, choice, log l, failure g", "done ; l a b c d",
        )

    def test_an_outer_failure_while_results_wait(self):
        self.seen(
            "catch f ( catch h ( choose ( say l a ) or ( say l b ) ) else ( skip ) ; say l c ; fail f ) else ( say l d )",
            "log l, failure f, failure h, choice", "done ; l a b c d", "say l a ; say l b ; say l c ; fail f ; say l d",
        )

    def test_stop_within_gathered_blocks(self):
        text = "choose ( put x 1 ) or ( catch f ( choose ( put x 2 ) or ( put y 1 ; stop ) ) else ( skip ) ; put x 0 )"
        self.seen(text, "cell x 3, failure f, choice, cell y 2", "done ; x 1 ; y 0 / done ; x 2 ; y 1", "put x 1 ; put x 2 ; put y 1 ; stop")
        self.seen(text, "failure f, choice, cell x 3, cell y 2", "done ; x 1 ; y 0 / done ; x 0 ; y 1")

    def test_without_a_choice_no_failure_is_outer(self):
        self.seen("catch f ( put x 1 ; fail f ) else ( skip ) ; put y 1", "failure f, cell x 2, cell y 2", "done ; x 0 ; y 1")


TWO = Program(Choose(Program()))


def last_of(many, block):
    """2 ** many branches, the last one of which runs a block."""
    return Program(Put("x", 1), *[Choose(Program(Put("x", 0)))] * many, If("x", 1, block))


def gathered(program, other=None):
    return Program(Catch("f", program, other))


def with_steps(many):
    """A program that gives no end, and of which so many deeds are run under a stack with a choice."""
    deeds = []
    while many > 4:
        # A choose and one or two deeds of its first block; then all that follows is run twice.
        first = 1 if many % 2 == 0 else 2
        deeds.append(Choose(Program(*[Put("x", 1)] * first)))
        many = (many - 1 - first) // 2
    return Program(*deeds, *[Put("x", 0)] * (many - 1), Leave())


def saying(many):
    """A program that gives no end, and that says so many words to a shared log."""
    deeds = []
    while many > 1:
        if many % 2 == 1:
            deeds.append(Say("l", "a"))
        deeds.append(Choose(Program()))
        many = many // 2
    return Program(*deeds, Say("l", "b"), Leave())


class LimitsCase(LayerCase):
    def refused_run(self, error, program, stack):
        """A run is refused, and its trace behind the deeds ahead, which are returned."""
        self.refused(error, ends, program, stack)
        shown, trail, refused = model_of(program, stack)
        self.assertEqual(refused, (error.what, error.most))
        rows = trace(program, stack)
        for deed in trail:
            self.assertEqual(next(rows), deed)
        self.refused(error, next, rows)
        return trail

    def many_ends(self, many, program, stack):
        """A run gives so many ends and is not refused; its trace neither."""
        self.assertEqual(len(ends(program, stack)), many)
        self.assertEqual(list(trace(program, stack)), model_of(program, stack)[1])


class EndsTest(LimitsCase):
    REFUSED = TooMany("ends", 64)
    INNER, OUTER = Stack.read("choice, cell x 2, failure f"), Stack.read("failure h, failure f, choice, cell x 2, failure g")

    def test_ends(self):
        for many in range(7):
            self.many_ends(2 ** many, TWO * many, self.INNER)
        self.many_ends(64, last_of(6, Program()), self.INNER)
        self.refused_run(self.REFUSED, last_of(6, TWO), self.INNER)
        self.refused_run(self.REFUSED, TWO * 7, self.INNER)
        self.many_ends(64, last_of(6, TWO + Stop()), self.INNER)
        self.many_ends(0, TWO * 8 + Leave(), self.INNER)

    def test_an_end_of_stop(self):
        self.many_ends(64, last_of(6, Program(Stop())), self.INNER)
        self.many_ends(64, last_of(6, Program(Stop()) | Program()), self.INNER)
        told = self.refused_run(self.REFUSED, last_of(6, Program() | Stop()), self.INNER)
        self.assertEqual(told[-1], Stop())

    def test_ends_of_inner_failures(self):
        self.many_ends(64, TWO * 6 + Fail("f"), self.INNER)
        told = self.refused_run(self.REFUSED, last_of(6, Program() | Fail("f")), self.INNER)
        self.assertEqual(told[-1], Fail("f"))

    def test_the_end_of_an_outer_failure(self):
        self.many_ends(1, last_of(6, Program(Fail("f"))), self.OUTER)
        told = self.refused_run(self.REFUSED, last_of(6, Program() | Fail("f")), self.OUTER)
        self.assertEqual(told[-1], Fail("f"))

    def test_results(self):
        self.many_ends(0, gathered(TWO * 6) + Leave(), self.OUTER)
        self.refused_run(self.REFUSED, gathered(last_of(6, TWO)) + Leave(), self.OUTER)
        self.many_ends(0, gathered(last_of(5, TWO)) + Leave(), self.OUTER)

    def test_a_result_that_goes_on_to_an_end_counts_twice(self):
        self.many_ends(32, gathered(TWO * 5), self.OUTER)
        self.refused_run(self.REFUSED, gathered(last_of(5, TWO)), self.OUTER)
        self.refused_run(self.REFUSED, gathered(TWO * 6), self.OUTER)
        self.refused_run(self.REFUSED, gathered(TWO * 6) + Stop(), self.OUTER)
        self.many_ends(16, Program(Catch("h", gathered(TWO * 4))), self.OUTER)
        self.refused_run(self.REFUSED, Program(Catch("h", gathered(TWO * 5))), self.OUTER)

    def test_results_that_are_failures(self):
        failing = gathered(TWO * 6 + Fail("g"))
        self.many_ends(0, Program(Catch("g", failing, Program(Leave()))), self.OUTER)
        self.refused_run(self.REFUSED, failing, self.OUTER)
        self.many_ends(32, gathered(TWO * 5 + Fail("g")), self.OUTER)

    def test_results_of_an_else_part(self):
        self.many_ends(32, gathered(Program(Fail("f")), TWO * 5), self.OUTER)
        self.refused_run(self.REFUSED, gathered(Program(Fail("f")), last_of(5, TWO)), self.OUTER)

    def test_dropped_results(self):
        # 31 results are dropped, the else part gives one, 32 ends follow.
        dropped = gathered(last_of(5, Program(Fail("f"))))
        self.many_ends(32, dropped + TWO * 5, self.OUTER)
        self.refused_run(self.REFUSED, dropped + last_of(5, TWO), self.OUTER)


class StepsTest(LimitsCase):
    REFUSED = TooMany("steps", 4000)
    STACK = Stack.read("log l, choice, cell x 2, failure f")

    def test_four_thousand(self):
        for many in [1, 2, 3, 4, 5, 6, 7, 50, 99, 3998, 3999, 4000]:
            self.many_ends(0, with_steps(many), self.STACK)
            self.assertEqual(Model(with_steps(many), self.STACK).steps, many)
        for many in [4001, 4002, 5000]:
            self.refused_run(self.REFUSED, with_steps(many), self.STACK)

    def test_each_kind_of_deed_is_a_step(self):
        for text, steps in [
            ("put x 1", 1), ("copy x x", 1), ("say l a", 1), ("if x = 0 ( skip ) else ( skip )", 1),
            ("if x = 1 ( skip ) else ( put x 1 )", 2), ("catch f ( skip ) else ( skip )", 1), ("choose ( none ) or ( skip )", 2),
            ("catch f ( fail f ) else ( skip )", 2), ("catch f ( put x 1 ; fail f ) else ( skip )", 3),
            ("choose ( put x 1 ; none ) or ( skip )", 3), ("catch f ( fail f ) else ( copy x x )", 3),
        ]:
            program = Program.read(text)
            self.many_ends(0, program + with_steps(4000 - steps), self.STACK)
            self.refused_run(self.REFUSED, program + with_steps(4001 - steps), self.STACK)

    def test_the_deed_that_is_a_step_too_many_is_not_told(self):
        told = self.refused_run(self.REFUSED, Program(Put("x", 0)) + with_steps(4000), self.STACK)
        self.assertEqual(told, [Put("x", 0), *list(trace(with_steps(4000), self.STACK))[:-1]])


class WordsTest(LimitsCase):
    REFUSED = TooMany("words", 200)
    STACK = Stack.read("failure f, log l, choice, cell x 2, log m")

    def says(self, deeds):
        return len([deed for deed in deeds if isinstance(deed, Say)])

    def test_two_hundred(self):
        for many in [1, 2, 3, 77, 199, 200]:
            self.many_ends(0, saying(many), self.STACK)
            self.assertEqual(self.says(trace(saying(many), self.STACK)), many)
        for many in [201, 202, 255]:
            self.assertEqual(self.says(self.refused_run(self.REFUSED, saying(many), self.STACK)), 200)

    def test_the_words_of_each_log(self):
        program = Program(Choose(saying(200))) + Say("m", "a")
        found = ends(program, self.STACK)
        self.assertEqual([(len(end.logs["l"]), end.logs["m"]) for end in found], [(200, ("a",))])
        self.refused_run(self.REFUSED, Program(Choose(saying(200))) + Say("l", "a"), self.STACK)

    def test_words_that_are_taken_back_leave_room(self):
        block = Program(Choose(saying(200)), Fail("f"))
        self.assertEqual(ends_text(ends(gathered(block, Program(Say("l", "c"))), self.STACK)), "done ; x 0 ; l c ; m -")
        kept = Stack.read("log l, failure f, choice, cell x 2")
        self.refused_run(self.REFUSED, gathered(block, Program(Say("l", "c"))), kept)

    def test_whichever_comes_first(self):
        said = Program(Choose(saying(200)))
        steps = Model(saying(200), self.STACK).steps + 1
        self.many_ends(0, said + with_steps(4000 - steps), self.STACK)
        self.refused_run(TooMany("steps", 4000), said + with_steps(4001 - steps), self.STACK)
        self.refused_run(TooMany("ends", 64), TWO * 7 + Say("l", "a"), self.STACK)
        self.refused_run(self.REFUSED, TWO * 6 + Program(Say("l", "a")) * 4, self.STACK)
        self.refused_run(TooMany("steps", 4000), TWO * 10 + Program(Put("x", 0)) * 3 + Leave(), self.STACK)

    def test_a_word_too_many_at_the_step_too_many(self):
        said = Program(Choose(saying(200)))
        steps = Model(saying(200), self.STACK).steps + 1
        for spare, error in [(0, TooMany("steps", 4000)), (1, self.REFUSED)]:
            # Behind the words all is without an effect, until one branch alone says a word more.
            idle = Program(Choose(with_steps(4000 - steps - 1 - spare)))
            program = said + idle + Say("l", "z")
            self.refused_run(error, program, self.STACK)


class RefusedTest(LayerCase):
    def test_the_order_of_errors(self):
        program, stack = Program.read("put x 2"), Stack(Cell("x"))
        for work in [ends, lambda program, stack: next(trace(program, stack))]:
            for value in values(lambda value: isinstance(value, Program)):
                self.refused(BadProgram("program"), work, value, stack)
                self.refused(BadProgram("program"), work, value, value)
            for value in values(lambda value: isinstance(value, Stack)):
                self.refused(BadStack("stack"), work, program, value)
            self.refused(Unfit("x"), work, program, stack)
            self.refused(Unfit("x"), work, program=program, stack=Stack())
            self.refused(Unfit("choice"), work, TWO * 12, Stack())

    def test_ahead_of_any_deed(self):
        self.refused(Unfit("z"), lambda: next(trace(Program.read("put x 1 ; fail z"), Stack(Cell("x")))))

    def test_by_name(self):
        program, stack = Program.read("put x 1"), Stack(Cell("x"))
        self.assertEqual(ends_text(ends(program=program, stack=stack)), "done ; x 1")
        self.assertEqual(list(trace(stack=stack, program=program)), [Put("x", 1)])

    def test_a_trace_is_a_generator_of_deeds(self):
        rows = trace(Program.read("choose ( put x 1 ) or ( stop )"), Stack.read("choice, cell x 2"))
        self.assertEqual(next(rows), Put("x", 1))
        rest = list(rows)
        self.assertEqual([str(deed) for deed in rest], ["stop"])
        self.assertTrue(all(isinstance(deed, Deed) for deed in rest))
        self.assertEqual(list(trace(Program(), Stack())), [])

    def test_nothing_changes(self):
        program, stack = Program.read("choose ( put x 1 ) or ( skip )"), Stack.read("choice, cell x 2")
        before = str(program), str(stack)
        self.assertEqual(ends(program, stack), ends(program, stack))
        self.assertEqual(list(trace(program, stack)), list(trace(program, stack)))
        self.assertEqual((str(program), str(stack)), before)
