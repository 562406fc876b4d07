"""Whether two programs are alike in all surroundings."""

from layerseen.errors import BadProgram
from layerseen.orders import check_stack
from layerseen.programs import Program
from layerseen.scenes import all_values
from layerseen.tables import table_about
from layerseen.values import Paper, copied


class Same(Paper):
    """Two programs are alike: the table tells the talks with either."""

    def __init__(self, table):
        self.table = copied(table)

    def __eq__(self, other):
        return isinstance(other, Same) and self.table == other.table

    def __bool__(self):
        return True

    def contents(self):
        return (self.table,)

    def anew(self):
        return Same(self.table)


class Apart(Paper):
    """Two programs are not alike: a talk that goes unlike, with its events with one and with the other."""

    def __init__(self, start, replies, events, others):
        self.start = copied(start)
        self.replies = copied(replies)
        self.events = copied(events)
        self.others = copied(others)

    def __eq__(self, other):
        return (
            isinstance(other, Apart) and self.start == other.start and self.replies == other.replies
            and self.events == other.events and self.others == other.others
        )

    def __bool__(self):
        return False

    def contents(self):
        return (self.start, self.replies, self.events, self.others)

    def anew(self):
        return Apart(self.start, self.replies, self.events, self.others)


class Meeting:
    """The rows of two tables about the same things, gone through side by side."""

    def __init__(self, rows, others):
        self.rows = rows
        self.others = others
        self.known = {}

    def soonest(self, number, other):
        """How many events the talks from two rows on have at least until they part; None if none part."""
        key = (number, other)
        if key not in self.known:
            found = [self.until(pair, facing) for pair, facing in zip(self.rows[number], self.others[other])]
            self.known[key] = min([int(many) for many in found if many is not None], default=None)
        return self.known[key]

    def until(self, pair, facing):
        """The same from two pairs of an event and a number on."""
        if pair[0] != facing[0]:
            return 1
        # Equal events are both the last one of their talk, or none of them is.
        behind = None if pair[1] is None else self.soonest(pair[1], facing[1])
        return None if behind is None else behind + 1

    def first(self):
        """The places in the rows of the first talk that parts with as few events as any, from its start on."""
        number, other = len(self.rows) - 1, len(self.others) - 1
        places = []
        for left in range(self.soonest(number, other), 0, -1):
            row, facing = self.rows[number], self.others[other]
            place = [at for at in range(len(row)) if self.until(row[at], facing[at]) == left][0]
            places.append(place)
            number, other = row[place][1], facing[place][1]
        return places


def alike(one, other, stack):
    """A Same if two programs are alike under a stack, otherwise an Apart."""
    check_programs(one, other, stack)
    names = things_named(one, other)
    first = table_about(one, stack, names)
    second = table_about(other, stack, names)
    if first == second:
        return Same(first)
    places = Meeting(first.rows, second.rows).first()
    asked = [pair for pair in first.sizes if pair[0] in first.replied]
    start = all_values(first.sizes)[places[0]]
    rows = all_values(asked)
    answers = [rows[place] for place in places[1:]]
    return Apart(start, tuple(answers), first.told(start, *answers), second.told(start, *answers))


def meet(one, other, stack):
    """How many events of all talks go alike before two programs part; None if they are alike."""
    found = alike(one, other, stack)
    return None if found else len(found.events) - 1


def check_programs(one, other, stack):
    """Refuses any values that are not two Programs and a Stack that takes both."""
    for program, part in ((one, "one"), (other, "other")):
        if not isinstance(program, Program):
            raise BadProgram(part)
    check_stack(stack, "stack")
    stack.check(one)
    stack.check(other)


def things_named(one, other):
    """The names of the things that one of two programs names; one may stand twice."""
    return [*one.cells, *one.logs, *other.cells, *other.logs]
