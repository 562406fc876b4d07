"""Helpers for values of all kinds."""


class Paper:
    """The base of the papers, which keep copies of any values; it is not made itself."""

    def contents(self):
        """The values that it keeps, in the order of its parameters."""
        return ()

    def anew(self):
        """An equal paper, with copies of its own."""
        return self


def is_whole(value):
    """Whether a value is an integer; a bool is none."""
    return isinstance(value, int) and not isinstance(value, bool)


def is_index(value, many):
    """Whether a value is an index, from 0 on, in a row of so many items."""
    return is_whole(value) and 0 <= value < many


def copied(value):
    """The value, with new lists, dicts and papers: what is done to the old ones does not reach it."""
    if isinstance(value, list):
        return [copied(item) for item in value]
    if isinstance(value, tuple):
        return tuple([copied(item) for item in value])
    if isinstance(value, dict):
        return {key: copied(value[key]) for key in value}
    if isinstance(value, Paper):
        return value.anew()
    return value


def same(one, other):
    """Whether two values are equal, and of the same kinds throughout: True is not 1 here."""
    if isinstance(one, bool) or isinstance(other, bool):
        return isinstance(one, bool) and isinstance(other, bool) and one == other
    if isinstance(one, list):
        return isinstance(other, list) and _same_rows(one, other)
    if isinstance(one, tuple):
        return isinstance(other, tuple) and _same_rows(one, other)
    if isinstance(one, dict):
        return (
            isinstance(other, dict) and len(one) == len(other)
            and all([key in other and same(one[key], other[key]) for key in one])
        )
    if isinstance(one, Paper):
        return one == other and same(one.contents(), other.contents())
    return one == other


def ascending(names):
    """The tuple of the names, sorted and without duplicates."""
    return tuple(sorted(set([str(name) for name in names])))


def _same_rows(one, other):
    return len(one) == len(other) and all([same(item, part) for item, part in zip(one, other)])
