"""Two stacks compared for all programs."""

from layerseen.errors import BadHandler, BadNumber, NoPlace, TooMany, Unlike
from layerseen.handlers import Cell, Choice, Failure, Handler, Keeping
from layerseen.orders import check_orders, check_stack, crossed_pairs, turned_pairs
from layerseen.programs import Choose, Fail, Program, Put, Say
from layerseen.seen import seen
from layerseen.stacks import Stack
from layerseen.values import Paper, ascending, copied, is_index, same


class Exchanges(Paper):
    """Two stacks show the same: exchanges of neighbours at these places lead from one to the other."""

    def __init__(self, places):
        self.places = copied(places)

    def __eq__(self, other):
        return isinstance(other, Exchanges) and self.places == other.places

    def __bool__(self):
        return True

    def contents(self):
        return (self.places,)

    def anew(self):
        return Exchanges(self.places)


class Parting(Paper):
    """Two stacks do not show the same: a program and its ends under one and under the other."""

    def __init__(self, program, ends, others):
        self.program = copied(program)
        self.ends = copied(ends)
        self.others = copied(others)

    def __eq__(self, other):
        return (
            isinstance(other, Parting) and self.program == other.program
            and self.ends == other.ends and self.others == other.others
        )

    def __bool__(self):
        return False

    def contents(self):
        return (self.program, self.ends, self.others)

    def anew(self):
        return Parting(self.program, self.ends, self.others)


def compare(one, other):
    """The Exchanges that lead from one to other if they show the same, otherwise a Parting."""
    check_orders(one, other)
    turned = turned_pairs(one, other)
    if not turned:
        return Exchanges(_places_between(one, other))
    outer, inner = turned[0]
    program = parting_of(one.handler(outer), one.handler(inner))
    return Parting(program, seen(program, one), seen(program, other))


def crossed(one, other):
    """The ascending pairs of all two handlers, as they stand in one, that stand the other way about in other."""
    check_orders(one, other)
    return crossed_pairs(one, other)


def way(one, other):
    """Yields the stacks from one to other along the places that compare tells."""
    found = compare(one, other)
    if not found:
        raise Unlike("pairs")
    stack = one
    yield stack
    for place in found.places:
        stack = stack.exchanged(place)
        yield stack


def led(stack, places):
    """The stack behind exchanges of neighbours at these places, also of such as interact."""
    check_stack(stack, "stack")
    if not isinstance(places, (list, tuple)):
        raise BadNumber(places)
    row = stack.handlers
    for place in places:
        if not is_index(place, len(row) - 1):
            raise NoPlace(place)
        row = _exchanged(row, place)
    return Stack(*row)


def parting_of(one, other):
    """The program of two deeds that shows in which order two handlers that interact stand."""
    for at, handler in enumerate((one, other)):
        if not isinstance(handler, Handler):
            raise BadHandler(at)
    if not one.meets(other):
        raise Unlike("pair")
    if isinstance(one, Choice) or isinstance(other, Keeping):
        return _program_for(other, one)
    return _program_for(one, other)


def partings(stack):
    """Yields the ascending names and the parting_of of all two handlers that interact, ascending by names."""
    check_stack(stack, "stack")
    names = ascending(stack.names)
    for at, name in enumerate(names):
        for other in names[at + 1:]:
            if stack.handler(name).meets(stack.handler(other)):
                yield ((name, other), parting_of(stack.handler(name), stack.handler(other)))


def shows_exchanges(one, other, value):
    """Whether any value is an Exchanges that leads from one to other, not always the shortest way."""
    check_orders(one, other)
    if not isinstance(value, Exchanges) or not isinstance(value.places, tuple):
        return False
    row = one.handlers
    for place in value.places:
        if not is_index(place, len(row) - 1) or row[place].meets(row[place + 1]):
            return False
        row = _exchanged(row, place)
    return row == other.handlers


def shows_parting(one, other, value):
    """Whether any value is a Parting of a program that is seen as it tells, under one and under other."""
    check_orders(one, other)
    if not isinstance(value, Parting) or not isinstance(value.program, Program):
        return False
    if not one.takes(value.program):
        return False
    try:
        found = (seen(value.program, one), seen(value.program, other))
    except TooMany:
        return False
    return found[0] != found[1] and same(found, (value.ends, value.others))


def _places_between(one, other):
    """As few places as possible: only neighbours that other has the other way about are exchanged."""
    names = one.names
    places = []
    for goal, name in enumerate(other.names):
        passed = list(range(goal, names.index(name)))
        places.extend(passed[::-1])
        names = names[:goal] + (name,) + tuple([left for left in names[goal:] if left != name])
    return tuple(places)


def _exchanged(row, place):
    """A row of handlers with two neighbours exchanged."""
    return row[:place] + (row[place + 1], row[place]) + row[place + 2:]


def _program_for(first, second):
    """The parting_of a thing and one that turns it, or of a failure and the choice."""
    if isinstance(first, Failure):
        return Program(Choose(Program(), Program(Fail(first.name))))
    touch = Put(first.name, 1) if isinstance(first, Cell) else Say(first.name, "a")
    if isinstance(second, Failure):
        return Program(touch, Fail(second.name))
    return Program(Choose(Program(touch)))
