"""Tables of all talks with a program about some things."""

from layerseen.errors import BadProgram, BadTalk, TooMany
from layerseen.orders import check_stack
from layerseen.programs import Program
from layerseen.scenes import Scene, all_values, are_values, is_cell_of, is_log_of, place_of
from layerseen.talks import event_of
from layerseen.values import Paper, copied, same

MOST_TALKS = 5000


class Table(Paper):
    """The events of all talks: rows of pairs of an event and the number of the row behind it, or None."""

    def __init__(self, sizes, replied, logs, rows):
        self.sizes = copied(sizes)
        self.replied = copied(replied)
        self.logs = copied(logs)
        self.rows = copied(rows)

    def __eq__(self, other):
        return (
            isinstance(other, Table) and self.sizes == other.sizes and self.replied == other.replied
            and self.logs == other.logs and self.rows == other.rows
        )

    def contents(self):
        return (self.sizes, self.replied, self.logs, self.rows)

    def anew(self):
        return Table(self.sizes, self.replied, self.logs, self.rows)

    @property
    def talks(self):
        """How many talks it tells."""
        counts = []
        for row in self.rows:
            counts.append(sum([1 if number is None else counts[number] for _, number in row]))
        return counts[-1]

    @property
    def longest(self):
        """The greatest number of events of a talk."""
        lengths = []
        for row in self.rows:
            behind = max([int(lengths[number]) for _, number in row if number is not None], default=0)
            lengths.append(behind + 1)
        return lengths[-1]

    def told(self, start, *replies):
        """The tuple of the events of a talk."""
        asked = [pair for pair in self.sizes if pair[0] in self.replied]
        if not are_values(start, self.sizes):
            raise BadTalk("start")
        if not all([are_values(reply, asked) for reply in replies]):
            raise BadTalk("reply")
        places = [place_of(start, self.sizes)] + [place_of(reply, asked) for reply in replies]
        number = len(self.rows) - 1
        events = []
        for place in places:
            if number is None:
                raise BadTalk("over")
            event, number = self.rows[number][place]
            events.append(event.anew())
        return tuple(events)


class Rows:
    """The rows of a least table, in the order in which they are complete."""

    def __init__(self, scene):
        self.scene = scene
        self.answers = all_values(scene.asked_sizes)
        self.complete = []
        self.numbers = {}
        self.gone_through = 0

    def fill(self):
        """Goes through all talks."""
        pairs = []
        for start in all_values(self.scene.sizes):
            pairs.append(self._pair(self.scene.begin(start)))
        self._number_of(pairs)

    def _pair(self, turn):
        """An event and the number of the row behind it."""
        if turn.moment is not None:
            return (event_of(turn), self._number_behind(turn.moment))
        if self.gone_through == MOST_TALKS:
            raise TooMany("talks", MOST_TALKS)
        self.gone_through = self.gone_through + 1
        return (event_of(turn), None)

    def _number_behind(self, moment):
        pairs = []
        for answer in self.answers:
            pairs.append(self._pair(self.scene.go_on(moment, answer)))
        return self._number_of(pairs)

    def _number_of(self, pairs):
        """The number of a row that is complete; an equal one is not told again."""
        text = " / ".join([f"{event} > {number}" for event, number in pairs])
        if text not in self.numbers:
            self.numbers[text] = len(self.complete)
            self.complete.append(tuple(pairs))
        return self.numbers[text]


def table(program, stack, *names):
    """The least Table of all talks about the things that a program names and those of names."""
    if not isinstance(program, Program):
        raise BadProgram("program")
    check_stack(stack, "stack")
    stack.check(program)
    if not all([is_cell_of(stack, name) or is_log_of(stack, name) for name in names]):
        raise BadTalk("names")
    return table_about(program, stack, names)


def shows_table(program, stack, paper, *names):
    """Whether any value is the least Table."""
    found = table(program, stack, *names)
    return same(found, paper)


def table_about(program, stack, names):
    """The least Table, for a program that the stack takes and names of things of it."""
    scene = Scene(program, stack, names)
    rows = Rows(scene)
    rows.fill()
    return Table(scene.sizes, scene.asked, scene.logs, tuple(rows.complete))
