"""Helpers for values of all kinds."""


def is_whole(value):
    """Whether a value is an integer; a bool is none."""
    return isinstance(value, int) and not isinstance(value, bool)


def is_index(value, many):
    """Whether a value is an index, from 0 on, in a row of so many items."""
    return is_whole(value) and 0 <= value < many


def copied(value):
    """The value, with new lists and dicts: what is done to the old ones does not reach it."""
    if isinstance(value, list):
        return [copied(item) for item in value]
    if isinstance(value, tuple):
        return tuple([copied(item) for item in value])
    if isinstance(value, dict):
        return {key: copied(value[key]) for key in value}
    return value


def ascending(names):
    """The tuple of the names, sorted and without duplicates."""
    return tuple(sorted(set([str(name) for name in names])))
