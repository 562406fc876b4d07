"""The lines that a desk is led by."""

from layerseen.grammar import program_tree
from layerseen.handlers import next_handlers
from layerseen.reader import next_ends
from layerseen.wishes import next_wish
from layerseen.words import Words

LINES = {
    "stack": ("stack",),
    "put": ("name", "program"),
    "drop": ("name",),
    "glue": ("name", "names"),
    "exchange": ("place",),
    "slim": ("name",),
    "undo": (),
    "show": (),
    "play": ("name",),
    "alike": ("name", "name"),
    "where": ("name", "name"),
    "compare": ("stack",),
    "class": (),
    "wish": ("wishes",),
    "near": ("wishes",),
    "fit": ("name", "ends"),
}
MOST_PLACE = 9


def parts_of(line):
    """The first word of a line, and what its other words tell.

    Nothing is made that can be refused: a stack is told by its handlers, a program by its tuple, wishes by a list.
    """
    words = Words(line, ",")
    known = list(LINES)
    parts = [words.take(*known)]
    for kind in LINES[parts[0]]:
        parts.append(_next_part(words, kind))
    words.finish()
    return parts


def _next_part(words, kind):
    if kind == "name":
        return words.take_name()
    if kind == "names":
        return _all_names(words)
    if kind == "place":
        return words.take_number(0, MOST_PLACE)
    if kind == "stack":
        return next_handlers(words)
    if kind == "program":
        return program_tree(words, 0)
    if kind == "ends":
        return next_ends(words)
    return _all_wishes(words)


def _all_names(words):
    names = []
    while words.has_more():
        names.append(words.take_name())
    return names


def _all_wishes(words):
    wishes = [next_wish(words)]
    while words.sees("and"):
        words.take("and")
        wishes.append(next_wish(words))
    return wishes
