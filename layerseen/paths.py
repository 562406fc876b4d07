"""Paths, which lead to the deeds of a program."""

from layerseen.values import is_index


def deed_on(path, program):
    """The deed that any value leads to as a path; None if it leads to none."""
    if not isinstance(path, tuple) or len(path) % 2 == 0:
        return None
    deed = None
    row = tuple(program)
    for place, index in enumerate(path):
        if not is_index(index, len(row)):
            return None
        # Indexes of deeds and of blocks take turns.
        if place % 2 == 0:
            deed = row[index]
            row = deed.blocks()
        else:
            row = tuple(row[index])
    return deed
