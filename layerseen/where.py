"""Under which stacks two programs are alike, and what a program shows of the order of the handlers."""

from layerseen.classes import all_classes
from layerseen.conditions import Conditions
from layerseen.ends import ends_text
from layerseen.errors import BadProgram, TooMany
from layerseen.likeness import alike, check_programs
from layerseen.look_likeness import shows_alike
from layerseen.orders import check_stack, have_same_handlers, turned_pairs
from layerseen.programs import Program
from layerseen.seen import seen
from layerseen.stacks import Stack
from layerseen.values import Paper, ascending, copied

MOST_CLASSES = 100
KINDS = {"x": "cell", "l": "log", "f": "failure"}

# Of each rule: its word, for which handlers it is told, whether it needs a choice, the texts of its programs.
RULES = (
    ("over", "x", False, "put x 1 ; put x 0", "put x 0"),
    ("end", "x", False, "stop ; put x 1", "stop"),
    ("aside", "xl", False, "put x 1 ; say l a", "say l a ; put x 1"),
    ("lost", "x", True, "put x 1 ; none", "none"),
    ("unsaid", "l", True, "say l a ; none", "none"),
    ("ahead", "x", True, "put x 1 ; choose ( skip ) or ( skip )", "choose ( put x 1 ) or ( put x 1 )"),
    ("vain", "xf", False, "put x 1 ; fail f", "fail f"),
    ("back", "xf", False, "catch f ( put x 1 ; fail f ) else ( skip )", "skip"),
    ("mute", "lf", False, "catch f ( say l a ; fail f ) else ( skip )", "skip"),
    ("broken", "f", True, "choose ( fail f ) or ( skip )", "fail f"),
    (
        "gathered", "xf", True,
        "catch f ( choose ( put x 1 ) or ( put x 0 ) ) else ( skip )", "choose ( put x 1 ) or ( put x 0 )",
    ),
)


class Where(Paper):
    """For the normal stack of each class what alike tells of two programs."""

    def __init__(self, rows):
        self.rows = copied(rows)

    def __eq__(self, other):
        return isinstance(other, Where) and self.rows == other.rows

    def __bool__(self):
        return all([bool(paper) for _, paper in self.rows])

    def __contains__(self, value):
        return isinstance(value, Stack) and any([
            have_same_handlers(value, stack) and not turned_pairs(value, stack) for stack in self.stacks
        ])

    def contents(self):
        return (self.rows,)

    def anew(self):
        return Where(self.rows)

    @property
    def stacks(self):
        """The tuple of the normal stacks under which both are alike."""
        return tuple([stack for stack, paper in self.rows if paper])

    @property
    def needed(self):
        """The ascending pairs that stand so in each of these stacks."""
        stacks = self.stacks
        first = stacks[:1]
        return tuple([
            pair for stack in first for pair in stack.pairs if all([pair in other.pairs for other in stacks])
        ])

    def enough(self, condition):
        """Whether any value is a condition such that both are alike under all stacks that have it."""
        if not isinstance(condition, tuple):
            return False
        having = [paper for stack, paper in self.rows if all([pair in stack.pairs for pair in condition])]
        return len(having) > 0 and all([bool(paper) for paper in having])

    def reasons(self):
        """The conditions that are enough, without those of which another one leaves more stacks."""
        conditions = Conditions([stack for stack, _ in self.rows])
        good = sum([1 << at for at, row in enumerate(self.rows) if row[1]])
        by_text = {}
        for some in conditions.greatest(good):
            pairs = conditions.fewest_pairs(some)
            names = [name for pair in pairs for name in pair]
            by_text[" ".join([f"{len(pairs):02d}", *names])] = pairs
        return tuple([by_text[text] for text in sorted(by_text, key=str)])


class Rule(Paper):
    """Two programs, and the conditions under which one may stand for the other one."""

    def __init__(self, word, one, other, conditions):
        self.word = copied(word)
        self.one = copied(one)
        self.other = copied(other)
        self.conditions = copied(conditions)

    def __eq__(self, other):
        return (
            isinstance(other, Rule) and self.word == other.word and self.one == other.one
            and self.other == other.other and self.conditions == other.conditions
        )

    def contents(self):
        return (self.word, self.one, self.other, self.conditions)

    def anew(self):
        return Rule(self.word, self.one, self.other, self.conditions)


def where(one, other, stack):
    """The Where of two programs for the handlers of a stack."""
    rows = _rows_for_both(one, other, stack)
    return Where(tuple([(row, alike(one, other, row)) for row in rows]))


def shows_where(one, other, stack, value):
    """Whether any value is a Where of the normal stacks, each with a paper that shows_alike takes."""
    rows = _rows_for_both(one, other, stack)
    if not isinstance(value, Where) or not isinstance(value.rows, tuple) or len(value.rows) != len(rows):
        return False
    if not all([_is_pair_for(pair, row) for pair, row in zip(value.rows, rows)]):
        return False
    for row, paper in value.rows:
        if not _is_shown(one, other, row, paper):
            return False
    return True


def groups(program, stack):
    """The pairs of the unlike Ends that a program shows and the normal stacks that show them, in order."""
    ends_of = {}
    stacks_of = {}
    for row in _rows_for(program, stack):
        found = seen(program, row)
        text = ends_text(found)
        ends_of[text] = found
        stacks_of.setdefault(text, []).append(row)
    return tuple([(ends_of[text], tuple(stacks_of[text])) for text in ends_of])


def shown(program, stack):
    """The ascending pairs of handlers whose exchange, where they are neighbours, changes the Ends in some stack."""
    rows = _rows_for(program, stack)
    texts = [ends_text(seen(program, row)) for row in rows]
    found = {}
    for at, row in enumerate(rows):
        for place in range(at):
            # Neighbours in some stack: no other pair stands the other way about.
            pairs = turned_pairs(row, rows[place])
            if len(pairs) == 1 and texts[at] != texts[place]:
                found[ascending(pairs[0])] = True
    names = ascending(stack.names)
    return tuple([(name, other) for name in names for other in names if (name, other) in found])


def rules(stack):
    """Yields the Rules for the handlers of a stack."""
    check_stack(stack, "stack")
    for word, letters, chooses, text, other_text in RULES:
        for names in _namings(stack, letters, chooses):
            one, other = Program.read(text).renamed(names), Program.read(other_text).renamed(names)
            # No other handlers than these play a part.
            wanted = [names[letter] for letter in letters] + ["choice"]
            row = [handler for handler in stack if handler.name in wanted]
            yield Rule(word, one, other, where(one, other, Stack(*row)).reasons())


def _rows_for_both(one, other, stack):
    """The normal stacks of all classes of the handlers of a stack that takes two programs."""
    check_programs(one, other, stack)
    return all_classes(stack, MOST_CLASSES)


def _rows_for(program, stack):
    """The normal stacks of all classes of the handlers of a stack that takes a program."""
    if not isinstance(program, Program):
        raise BadProgram("program")
    check_stack(stack, "stack")
    stack.check(program)
    return all_classes(stack, MOST_CLASSES)


def _is_pair_for(value, stack):
    """Whether any value is a pair of this stack and something else."""
    return isinstance(value, tuple) and len(value) == 2 and value[0] == stack


def _is_shown(one, other, stack, paper):
    """Whether shows_alike takes a paper, without an error."""
    try:
        return shows_alike(one, other, stack, paper)
    except TooMany:
        return False


def _namings(stack, letters, chooses):
    """The dicts from letters to names of handlers of their kinds, ascending; none if a choice is needed and lacking."""
    if chooses and "choice" not in stack:
        return []
    rows = [{}]
    for letter in letters:
        names = ascending([handler.name for handler in stack if handler.WORD == KINDS[letter]])
        rows = [{**row, letter: name} for row in rows for name in names]
    return rows
