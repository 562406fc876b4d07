"""Two orders of the same handlers."""

from layerseen.errors import BadStack, Unlike
from layerseen.stacks import Stack


def check_stack(value, part):
    """Refuses any value that is no Stack."""
    if not isinstance(value, Stack):
        raise BadStack(part)


def check_orders(one, other):
    """Refuses any values that are not two Stacks of the same handlers."""
    check_stack(one, "one")
    check_stack(other, "other")
    if not have_same_handlers(one, other):
        raise Unlike("handlers")


def have_same_handlers(one, other):
    """Whether two stacks have the same handlers, in any order."""
    return len(one) == len(other) and all([handler in other.handlers for handler in one])


def crossed_pairs(one, other):
    """The ascending pairs of names, the outer one first, that stand the other way about in other."""
    at_one = {name: at for at, name in enumerate(one.names)}
    at_other = {name: at for at, name in enumerate(other.names)}
    names = sorted(one.names, key=str)
    return tuple([
        (outer, inner) for outer in names for inner in names
        if at_one[outer] < at_one[inner] and at_other[outer] > at_other[inner]
    ])


def turned_pairs(one, other):
    """The crossed pairs of handlers that interact."""
    return tuple([pair for pair in one.pairs if pair not in other.pairs])
