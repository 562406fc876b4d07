"""Handlers: cells, logs, failures and the choice.

The interface lists the class method read for each class below Handler, too, so each one defines it.
"""

from layerseen.errors import BadNumber
from layerseen.names import check_name
from layerseen.values import is_whole
from layerseen.words import Words


class Handler:
    """The base of all handlers; it is not made itself."""

    @classmethod
    def read(cls, text):
        """The handler with just this text, of whatever class."""
        words = Words(text)
        handler = next_handler(words)
        words.finish()
        return handler

    def meets(self, other):
        """Whether any value is a handler that interacts with this one."""
        return _meet_one_way(self, other) or _meet_one_way(other, self)


class Named(Handler):
    """A handler with a name of its own; it is not made itself."""

    @classmethod
    def read(cls, text):
        return Handler.read(text)


class Keeping(Handler):
    """A thing; it is not made itself."""

    @classmethod
    def read(cls, text):
        return Handler.read(text)


class Turning(Handler):
    """A failure or the choice; it is not made itself."""

    @classmethod
    def read(cls, text):
        return Handler.read(text)


class Cell(Named, Keeping):
    """Holds a value from 0 to its size less 1."""

    WORD = "cell"
    LEAST = 2
    MOST = 4

    def __init__(self, name, size=2):
        check_name(name)
        if not is_whole(size) or not Cell.LEAST <= size <= Cell.MOST:
            raise BadNumber(size)
        self.name = name
        self.size = size

    def __eq__(self, other):
        return isinstance(other, Cell) and self.name == other.name and self.size == other.size

    def __str__(self):
        return f"cell {self.name} {self.size}"

    @classmethod
    def read(cls, text):
        return Handler.read(text)


class Log(Named, Keeping):
    """Holds a row of words."""

    WORD = "log"

    def __init__(self, name):
        check_name(name)
        self.name = name

    def __eq__(self, other):
        return isinstance(other, Log) and self.name == other.name

    def __str__(self):
        return f"log {self.name}"

    @classmethod
    def read(cls, text):
        return Handler.read(text)


class Failure(Named, Turning):
    """Takes back the things inside of it when a block fails."""

    WORD = "failure"

    def __init__(self, name):
        check_name(name)
        self.name = name

    def __eq__(self, other):
        return isinstance(other, Failure) and self.name == other.name

    def __str__(self):
        return f"failure {self.name}"

    @classmethod
    def read(cls, text):
        return Handler.read(text)


class Choice(Turning):
    """Gives each branch things of its own inside of it."""

    WORD = "choice"

    def __init__(self):
        self.name = "choice"

    def __eq__(self, other):
        return isinstance(other, Choice)

    def __str__(self):
        return "choice"

    @classmethod
    def read(cls, text):
        return Handler.read(text)


def next_handler(words):
    """The handler that the next words tell."""
    word = words.take(Cell.WORD, Log.WORD, Failure.WORD, Choice.WORD)
    if word == Cell.WORD:
        name = words.take_name()
        return Cell(name, words.take_number(Cell.LEAST, Cell.MOST))
    if word == Log.WORD:
        return Log(words.take_name())
    if word == Failure.WORD:
        return Failure(words.take_name())
    return Choice()


def next_handlers(words):
    """The handlers that the next words tell, a comma behind each but the last one; - tells none."""
    if words.sees("-"):
        words.take("-")
        return ()
    row = [next_handler(words)]
    while words.sees(","):
        words.take(",")
        row.append(next_handler(words))
    return tuple(row)


def _meet_one_way(one, other):
    if isinstance(one, Keeping):
        return isinstance(other, Turning)
    return isinstance(one, Failure) and isinstance(other, Choice)
