"""Conditions on the order of some handlers, each told by the set of the stacks that have it.

A set of stacks is a number: its bit at k is 1 if the k-th stack is in it.
"""


class Conditions:
    """All conditions on the order of the handlers of some stacks, which are those of all classes."""

    def __init__(self, stacks):
        self.whole = (1 << len(stacks)) - 1
        pairs = stacks[0].pairs
        self.pairs = [*pairs, *[(inner, outer) for outer, inner in pairs]]
        self.having = [
            sum([1 << at for at, stack in enumerate(stacks) if pair in stack.pairs]) for pair in self.pairs
        ]

    def greatest(self, good):
        """The sets within the good stacks that a condition has and that no greater such set has."""
        reached = [self.whole]
        known = {self.whole: True}
        found = []
        while reached:
            some = reached.pop()
            if some & ~good == 0:
                found.append(some)
                continue
            for having in self.having:
                part = some & having
                # A set without a good stack has no part to be found.
                if part & good != 0 and part not in known:
                    known[part] = True
                    reached.append(part)
        return [some for some in found if not any([some != other and some & ~other == 0 for other in found])]

    def fewest_pairs(self, some):
        """The ascending fewest pairs that just these stacks have, for a set that a condition has."""
        held = [at for at, having in enumerate(self.having) if some & ~having == 0]
        pairs = [self.pairs[at] for at in held if self._common([other for other in held if other != at]) != some]
        by_text = {" ".join(pair): pair for pair in pairs}
        return tuple([by_text[text] for text in sorted(by_text, key=str)])

    def _common(self, places):
        """The stacks that have all the pairs at these places."""
        some = self.whole
        for at in places:
            some = some & self.having[at]
        return some
