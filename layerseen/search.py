"""Which stacks keep some wishes without a ring, put together from the outermost handler.

A set of handlers is a number: its bit at k is 1 if the k-th one, ascending by names, is in it.
"""

from layerseen.values import ascending


class Search:
    """All ways to put the handlers of a stack together that keep some wishes, pairs (inner, outer) of names.

    The price of a handler is how many of the old pairs (outer, inner) are turned when it is put inside of all
    that is there.
    """

    def __init__(self, stack, wished, old):
        self.names = ascending(stack.names)
        self.handlers = [stack.handler(name) for name in self.names]
        self.whole = (1 << len(self.names)) - 1
        # Of each handler: those that it shall stand inside of, and those that turn if they stand outside of it.
        self.around = [self._set_of([outer for inner, outer in wished if inner == name]) for name in self.names]
        self.turning = [self._set_of([inner for outer, inner in old if outer == name]) for name in self.names]
        self.known = {}

    def first(self):
        """The handlers, in the first order that keeps the wishes, of those that turn the fewest pairs.

        Its names ascend in each run: neighbours that do not interact could be exchanged for an earlier order.
        """
        row = []
        placed = 0
        while placed != self.whole:
            least = self.least(placed)
            nearest = [at for at in self.joining(placed) if self._least_by(placed, at) == least]
            row.append(self.handlers[nearest[0]])
            placed = placed | 1 << nearest[0]
        return row

    def least(self, placed):
        """How few pairs are turned by all that is not yet placed inside of a closed set."""
        if placed not in self.known:
            self.known[placed] = min([int(self._least_by(placed, at)) for at in self.joining(placed)], default=0)
        return self.known[placed]

    def price(self, placed, at):
        """How many pairs are turned by putting this handler inside of those that are placed."""
        bits = f"{placed & self.turning[at]:b}"
        return bits.count("1")

    def closed(self):
        """The closed sets, each behind its parts."""
        return [
            some for some in range(self.whole + 1)
            if all([self.around[at] & ~some == 0 for at in range(len(self.names)) if some >> at & 1])
        ]

    def joining(self, some):
        """The handlers with which a closed set is closed, too."""
        return [
            at for at, around in enumerate(self.around)
            if not some >> at & 1 and around & ~some == 0
        ]

    def names_of(self, some):
        """The ascending names of a set."""
        return tuple([name for at, name in enumerate(self.names) if some >> at & 1])

    def _set_of(self, names):
        return sum([1 << at for at, name in enumerate(self.names) if name in names])

    def _least_by(self, placed, at):
        """The price of a handler and the least that must follow it."""
        return self.price(placed, at) + self.least(placed | 1 << at)


def floors_of(search):
    """By the names of each closed set, how few pairs are turned by placing it ahead of all others."""
    floors = {0: 0}
    for some in search.closed():
        for at in search.joining(some):
            price = floors[some] + search.price(some, at)
            greater = some | 1 << at
            floors[greater] = min(int(price), floors.get(greater, price))
    return {search.names_of(some): floors[some] for some in floors}


def least_ring(pairs):
    """The least ring of as few names as any of the pairs (inner, outer); None if there is none."""
    names = ascending([name for pair in pairs for name in pair])
    rings = [ring for ring in [_ring_from(name, pairs) for name in names] if ring is not None]
    fewest = min([len(ring) for ring in rings], default=0)
    # The first one of those from their least name on is the least one.
    return [*[ring for ring in rings if len(ring) == fewest], None][0]


def _ring_from(name, pairs):
    """The least of the shortest rings through a name, from it on; None if there is none."""
    steps = _steps_to(name, pairs)
    outer = [other for inner, other in pairs if inner == name and other in steps]
    if not outer:
        return None
    ring = [name]
    left = min([int(steps[other]) for other in outer])
    while left > 0:
        free = [other for inner, other in pairs if inner == ring[-1] and steps.get(other) == left]
        ring.append(sorted(free, key=str)[0])
        left = left - 1
    return tuple(ring)


def _steps_to(goal, pairs):
    """By the names from which pairs lead to a goal, how many pairs at least."""
    steps = {goal: 0}
    reached = [goal]
    while reached:
        nearer = reached[0]
        reached = reached[1:]
        for inner, outer in pairs:
            if outer == nearer and inner not in steps:
                steps[inner] = steps[nearer] + 1
                reached.append(inner)
    return steps
