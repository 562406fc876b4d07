"""Classes: all stacks that are alike to one another, each told by its one normal stack."""

from math import comb, factorial

from layerseen.counting import CHOICE, FAILURES, THINGS, Counts
from layerseen.errors import BadNumber, TooMany
from layerseen.handlers import Failure, Keeping
from layerseen.orders import check_orders, check_stack, have_same_handlers, turned_pairs
from layerseen.stacks import Stack
from layerseen.values import ascending, is_index

MOST_COUNTED = 60


def layers(stack):
    """The tuple of the runs, the outermost first, each an ascending tuple of names."""
    check_stack(stack, "stack")
    return tuple([ascending([handler.name for handler in run]) for run in _runs(stack)])


def normal(stack):
    """The normal stack of the class of a stack."""
    row = [stack.handler(name) for names in layers(stack) for name in names]
    return Stack(*row)


def many_in(stack):
    """How many stacks the class of a stack has."""
    many = 1
    for names in layers(stack):
        many = many * factorial(len(names))
    return many


def many_classes(keeping, failures, has_choice):
    """How many classes the stacks of so many things, so many failures and, if has_choice, a choice have."""
    for value in (keeping, failures):
        if not is_index(value, MOST_COUNTED + 1):
            raise BadNumber(value)
    if not isinstance(has_choice, bool):
        raise BadNumber(has_choice)
    return Counts(max(int(keeping), int(failures))).number(keeping, failures, int(has_choice), None)


def many_for(stack):
    """How many classes the stacks of the handlers of a stack have."""
    rest = list(stack)
    return _many_rows(Counts(len(rest)), rest, None)


def all_classes(stack, most):
    """The normal stacks of all classes of the handlers, in order, if they are not too many."""
    if many_for(stack) > most:
        raise TooMany("classes", most)
    return list(classes(stack))


def classes(stack, index=0):
    """Yields the normal stacks of all classes of the handlers, in order, from the one with this index on."""
    row = class_at(stack, index).handlers
    while row is not None:
        yield Stack(*row)
        row = _row_behind(row)


def class_at(stack, index):
    """The normal stack of the class with this index."""
    check_stack(stack, "stack")
    rest = _by_names(stack)
    counts = Counts(len(rest))
    if not is_index(index, _many_rows(counts, rest, None)):
        raise BadNumber(index)
    row = []
    while rest:
        for handler in _followers(row, rest):
            left = _without(rest, handler)
            many = _many_behind(counts, handler, left)
            if index < many:
                break
            index = index - many
        row.append(handler)
        rest = left
    return Stack(*row)


def class_index(stack):
    """The index of the class of a stack."""
    row = normal(stack).handlers
    counts = Counts(len(row))
    index = 0
    for at, handler in enumerate(row):
        rest = _by_names(row[at:])
        ahead = [other for other in _followers(row[:at], rest) if other.name < handler.name]
        index = index + sum([_many_behind(counts, other, _without(rest, other)) for other in ahead])
    return index


def turned(one, other):
    """The ascending pairs of handlers that interact, as they stand in one, that other has the other way about."""
    check_orders(one, other)
    return turned_pairs(one, other)


def beside(stack):
    """Yields the normal stacks of the classes that differ from that of a stack in just one pair, in order."""
    yield from _all_beside(normal(stack))


def class_way(one, other):
    """The first of the shortest rows of normal stacks, each one beside the one ahead, from one to other."""
    check_orders(one, other)
    goal = normal(other)
    row = [normal(one)]
    while row[-1] != goal:
        many = len(turned_pairs(row[-1], goal))
        nearer = [near for near in _all_beside(row[-1]) if len(turned_pairs(near, goal)) < many]
        row.append(nearer[0])
    return tuple(row)


def shows_class_way(one, other, value):
    """Whether any value is such a row of stacks from one to other, normal or not, not always the first one."""
    check_orders(one, other)
    if not isinstance(value, tuple) or len(value) != len(turned_pairs(one, other)) + 1:
        return False
    if not all([isinstance(stack, Stack) and have_same_handlers(stack, one) for stack in value]):
        return False
    steps = [len(turned_pairs(stack, behind)) for stack, behind in zip(value, value[1:])]
    return (
        not turned_pairs(value[0], one) and not turned_pairs(value[-1], other)
        and all([many == 1 for many in steps])
    )


def _runs(handlers):
    """The rows of neighbours of one sort, as long as possible."""
    found = []
    for handler in handlers:
        if found and not found[-1][-1].meets(handler):
            found[-1].append(handler)
        else:
            found.append([handler])
    return found


def _all_beside(stack):
    """The normal stacks behind each exchange of a handler of a run with one of the next run, in order."""
    runs = _runs(stack)
    found = {}
    for at in range(1, len(runs)):
        ahead = [handler for run in runs[:at - 1] for handler in run]
        behind = [handler for run in runs[at + 1:] for handler in run]
        for one in runs[at - 1]:
            for other in runs[at]:
                touching = _without(runs[at - 1], one) + [other, one] + _without(runs[at], other)
                row = ahead + touching + behind
                near = normal(Stack(*row))
                found[" ".join(near.names)] = near
    return [found[text] for text in sorted(found, key=str)]


def _by_names(handlers):
    """The handlers, ascending by their names."""
    by_name = {handler.name: handler for handler in handlers}
    return [by_name[name] for name in ascending(by_name)]


def _without(handlers, handler):
    return [other for other in handlers if other.name != handler.name]


def _followers(row, rest):
    """The handlers of rest that can stand next behind a row, so that names ascend in each run."""
    if not row:
        return rest
    return [handler for handler in rest if handler.meets(row[-1]) or row[-1].name < handler.name]


def _sort_of(handler):
    if isinstance(handler, Keeping):
        return THINGS
    return FAILURES if isinstance(handler, Failure) else CHOICE


def _many_rows(counts, rest, barred):
    """In how many ways the rest can stand without beginning with a run of this sort."""
    sorts = [_sort_of(handler) for handler in rest]
    return counts.number(sorts.count(THINGS), sorts.count(FAILURES), sorts.count(CHOICE), barred)


def _many_behind(counts, last, rest):
    """In how many ways the rest can stand behind a handler; some of its sort can join its run."""
    joining = [handler for handler in rest if not handler.meets(last) and last.name < handler.name]
    others = [handler for handler in rest if handler not in joining]
    return sum([
        comb(len(joining), len(left)) * _many_rows(counts, others + left, _sort_of(last))
        for left in [joining[taken:] for taken in range(len(joining) + 1)]
    ])


def _row_behind(row):
    """The next one of the rows of the normal stacks; None behind the last one."""
    for at in range(len(row) - 1, -1, -1):
        rest = _by_names(row[at:])
        for handler in _followers(row[:at], rest):
            left = _without(rest, handler)
            if handler.name > row[at].name and not _is_stuck(handler, left):
                return _first_row([*row[:at], handler], left)
    return None


def _first_row(row, rest):
    """The first normal row of the rest behind a row that can be gone on with."""
    while rest:
        # Those of the last one's sort that cannot follow at once follow behind the first of another sort.
        least = _followers(row, rest)[0]
        row = [*row, least]
        rest = _without(rest, least)
    return row


def _is_stuck(last, rest):
    """Whether the rest cannot stand behind a handler: all are of its sort, and not all names are greater."""
    return (
        not any([handler.meets(last) for handler in rest])
        and any([handler.name < last.name for handler in rest])
    )
