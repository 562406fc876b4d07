"""The errors of the package.

Each one keeps copies of its fields: what is done to a list afterwards does not reach them.
"""

from layerseen.values import copied


class LayerError(ValueError):
    """The base of all errors."""


class BadName(LayerError):
    """A value that is no name."""

    def __init__(self, value):
        self.value = copied(value)


class BadWord(LayerError):
    """A value that is no word for a log."""

    def __init__(self, value):
        self.value = copied(value)


class BadNumber(LayerError):
    """A value that is no such number."""

    def __init__(self, value):
        self.value = copied(value)


class BadDeed(LayerError):
    """What stands at this index is no deed."""

    def __init__(self, at):
        self.at = copied(at)


class BadProgram(LayerError):
    """What is passed for this part is no program, or does not fit it."""

    def __init__(self, part):
        self.part = copied(part)


class BadHandler(LayerError):
    """What stands at this index is no handler."""

    def __init__(self, at):
        self.at = copied(at)


class BadStack(LayerError):
    """What is passed for this part is no stack, or does not fit it."""

    def __init__(self, part):
        self.part = copied(part)


class BadWish(LayerError):
    """What is passed for this part is no wish."""

    def __init__(self, part):
        self.part = copied(part)


class BadTalk(LayerError):
    """What is passed for this part does not fit a talk."""

    def __init__(self, part):
        self.part = copied(part)


class BadSample(LayerError):
    """What stands at this index is no sample, or does not fit it."""

    def __init__(self, at):
        self.at = copied(at)


class BadBook(LayerError):
    """What is passed for this part is no bench."""

    def __init__(self, part):
        self.part = copied(part)


class BadText(LayerError):
    """The first word of a text that cannot stand."""

    def __init__(self, line, word):
        self.line = copied(line)
        self.word = copied(word)


class BadLine(LayerError):
    """The first word of a line that cannot stand."""

    def __init__(self, word):
        self.word = copied(word)


class NoName(LayerError):
    """There is nothing under this name."""

    def __init__(self, name):
        self.name = copied(name)


class NoPlace(LayerError):
    """There is no such place."""

    def __init__(self, at):
        self.at = copied(at)


class Taken(LayerError):
    """There is something under this name already."""

    def __init__(self, name):
        self.name = copied(name)


class Unfit(LayerError):
    """The stack does not take the program, for this name."""

    def __init__(self, name):
        self.name = copied(name)


class Unlike(LayerError):
    """These parts are not alike as they must be."""

    def __init__(self, part):
        self.part = copied(part)


class TooMany(LayerError):
    """There are more of these than there may be."""

    def __init__(self, what, most):
        self.what = copied(what)
        self.most = copied(most)


class NoChange(LayerError):
    """There is no change that can be taken back."""
