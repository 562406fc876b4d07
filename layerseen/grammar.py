"""The texts of programs, read into tuples.

A program becomes the tuple of its deeds, a deed the tuple of its word and its fields. All words are read
before a Program is made, since a word that cannot stand is told ahead of what Program refuses.
"""

from layerseen.shapes import NAMED, SHAPES
from layerseen.words import Words

MOST_NESTED = 6
MOST_VALUE = 3


def whole_program(text):
    """The tuple for the text of a program."""
    words = Words(text)
    tree = program_tree(words, 0)
    words.finish()
    return tree


def whole_deed(text):
    """The tuple for the text of a deed."""
    words = Words(text)
    tree = deed_tree(words, 0)
    words.finish()
    return tree


def program_tree(words, depth):
    """The tuple for the next deeds, within so many blocks."""
    if words.sees("skip"):
        words.take("skip")
        return ()
    row = [deed_tree(words, depth)]
    while words.sees(";"):
        words.take(";")
        row.append(deed_tree(words, depth))
    return tuple(row)


def deed_tree(words, depth):
    """The tuple for the next deed, within so many blocks."""
    known = list(SHAPES)
    word = words.take(*known)
    tree = [word]
    for shape in SHAPES[word]:
        if shape in NAMED:
            tree.append(words.take_name())
        elif shape == "value":
            tree.append(words.take_number(0, MOST_VALUE))
        elif shape == "word":
            tree.append(words.take_word())
        elif shape == "block":
            tree.append(_block_tree(words, depth))
        else:
            words.take(shape)
    return tuple(tree)


def _block_tree(words, depth):
    if depth == MOST_NESTED:
        words.refuse()
    words.take("(")
    block = program_tree(words, depth + 1)
    words.take(")")
    return block
