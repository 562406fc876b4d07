"""How many rows of runs some handlers can stand in, told by their numbers alone.

No two neighbouring runs are of one sort. A row without a choice is things and failures by turns; the choice
parts a row in two that do not depend on one another.
"""

from math import comb

THINGS = "things"
FAILURES = "failures"
CHOICE = "choice"


class Counts:
    """The numbers of rows of at most so many things and at most so many failures."""

    def __init__(self, most):
        self.parted = _parted_table(most)
        self.known = {}

    def number(self, things, failures, choices, barred):
        """How many rows there are that do not begin with a run of the barred sort."""
        key = (things, failures, choices, barred)
        if key not in self.known:
            self.known[key] = self._parted_by_choice(things, failures, barred) if choices else (
                self._by_turns(things, failures, barred)
            )
        return self.known[key]

    def _parted_by_choice(self, things, failures, barred):
        return sum([
            comb(things, some) * comb(failures, few) * self.number(some, few, 0, barred)
            * self.number(things - some, failures - few, 0, CHOICE)
            for some in range(things + 1) for few in range(failures + 1)
        ])

    def _by_turns(self, things, failures, barred):
        if things == 0 and failures == 0:
            return 1
        first_things = 0 if barred == THINGS else self._begun(things, failures)
        first_failures = 0 if barred == FAILURES else self._begun(failures, things)
        return first_things + first_failures

    def _begun(self, first, second):
        """How many rows begin with a run of the first ones: these have as many runs as the second ones, or one more."""
        rows, others = self.parted[first], self.parted[second]
        return sum([rows[runs] * (others[runs] + others[runs - 1]) for runs in range(1, first + 1)])


def _parted_table(most):
    """By many and runs, up to most: in how many ways so many handlers make so many runs, in a row."""
    table = [[1] + [0] * most]
    for _ in range(most):
        last = table[-1]
        table.append([0] + [runs * (last[runs] + last[runs - 1]) for runs in range(1, most + 1)])
    return table
