"""Stacks: rows of handlers, the outermost one first."""

from layerseen.errors import BadHandler, BadProgram, BadStack, NoName, NoPlace, Taken, TooMany, Unfit
from layerseen.handlers import Cell, Failure, Handler, Keeping, Log, next_handlers
from layerseen.names import is_renaming
from layerseen.programs import Program
from layerseen.values import ascending, is_index
from layerseen.words import Words

LIMITS = (("cell", "cells", 4), ("log", "logs", 2), ("failure", "failures", 3))


class Stack:
    """A row of handlers with unlike names."""

    def __init__(self, *handlers):
        _check_handlers(handlers)
        self.handlers = handlers
        self.names = tuple([handler.name for handler in handlers])
        outside = handlers[:self.names.index("choice")] if "choice" in self.names else ()
        inside = handlers[len(outside):]
        self.shared = ascending([handler.name for handler in outside if isinstance(handler, Keeping)])
        self.own = ascending([handler.name for handler in inside if isinstance(handler, Keeping)])
        self.gathering = ascending([handler.name for handler in outside if isinstance(handler, Failure)])
        self.pairs = _pairs_of(handlers, self.names)

    @staticmethod
    def of(handlers):
        """The Stack of a list or tuple of handlers."""
        if not isinstance(handlers, (list, tuple)):
            raise BadStack("handlers")
        return Stack(*handlers)

    @classmethod
    def read(cls, text):
        """The Stack with just this text."""
        words = Words(text, ",")
        row = next_handlers(words)
        words.finish()
        return Stack(*row)

    def __len__(self):
        return len(self.handlers)

    def __iter__(self):
        return iter(self.handlers)

    def __contains__(self, name):
        return name in self.names

    def __getitem__(self, at):
        if isinstance(at, int):
            return self.handlers[at]
        row = self.handlers[at]
        return Stack(*row)

    def __eq__(self, other):
        return isinstance(other, Stack) and self.handlers == other.handlers

    def __str__(self):
        if not self.handlers:
            return "-"
        return ", ".join([str(handler) for handler in self.handlers])

    def place(self, name):
        """The index of the handler with this name."""
        if name not in self.names:
            raise NoName(name)
        return self.names.index(name)

    def handler(self, name):
        """The handler with this name."""
        return self.handlers[self.place(name)]

    def is_inside(self, name, other):
        """Whether the first handler stands inside the second one."""
        place = self.place(name)
        return place > self.place(other)

    def taken_back(self, name):
        """The ascending names of the things inside of a failure."""
        at = self._failure_place(name)
        return ascending([handler.name for handler in self.handlers[at:] if isinstance(handler, Keeping)])

    def kept(self, name):
        """The ascending names of the things outside of a failure."""
        at = self._failure_place(name)
        return ascending([handler.name for handler in self.handlers[:at] if isinstance(handler, Keeping)])

    def exchanged(self, k):
        """The stack with the handlers of the indexes k and k + 1 exchanged."""
        if not is_index(k, len(self.handlers) - 1):
            raise NoPlace(k)
        row = self.handlers[:k] + (self.handlers[k + 1], self.handlers[k]) + self.handlers[k + 2:]
        return Stack(*row)

    def moved(self, name, k):
        """The stack with this handler taken out and put in at the index k."""
        handler = self.handler(name)
        if not is_index(k, len(self.handlers)):
            raise NoPlace(k)
        rest = (self - name).handlers
        row = rest[:k] + (handler,) + rest[k:]
        return Stack(*row)

    def __add__(self, other):
        row = self.handlers + _handlers_in(other)
        return Stack(*row)

    def __radd__(self, other):
        row = _handlers_in(other) + self.handlers
        return Stack(*row)

    def __sub__(self, name):
        at = self.place(name)
        row = self.handlers[:at] + self.handlers[at + 1:]
        return Stack(*row)

    def __floordiv__(self, name):
        return self[:self.place(name)]

    def __mod__(self, name):
        return self[self.place(name) + 1:]

    def __invert__(self):
        return self[::-1]

    def __le__(self, other):
        if not isinstance(other, Stack):
            raise BadStack("other")
        return (
            all([handler in other.handlers for handler in self.handlers])
            and all([pair in other.pairs for pair in self.pairs])
        )

    def renamed(self, names):
        """The stack with other names, by a dict from names to names."""
        if not is_renaming(names):
            raise BadStack("names")
        for name in ascending(names):
            if name not in self.names:
                raise NoName(name)
        row = [_named(handler, names.get(handler.name, handler.name)) for handler in self.handlers]
        return Stack(*row)

    def check(self, program):
        """Refuses a program that the stack does not take."""
        if not isinstance(program, Program):
            raise BadProgram("program")
        unfit = self._unfit_names(program)
        if unfit:
            raise Unfit(unfit[0])

    def takes(self, program):
        """Whether the stack takes a program."""
        if not isinstance(program, Program):
            raise BadProgram("program")
        return len(self._unfit_names(program)) == 0

    def _failure_place(self, name):
        at = self.place(name)
        if not isinstance(self.handlers[at], Failure):
            raise NoName(name)
        return at

    def _unfit_names(self, program):
        """The ascending names for which the stack does not take a program."""
        kinds = {handler.name: handler.WORD for handler in self.handlers}
        unfit = [name for kind, name in program.used_names if kinds.get(name) != kind]
        sizes = program.least_sizes()
        small = [
            handler.name for handler in self.handlers
            if isinstance(handler, Cell) and handler.size < sizes.get(handler.name, 0)
        ]
        lacking = ["choice"] if program.chooses and "choice" not in self.names else []
        return ascending(unfit + small + lacking)


def _check_handlers(handlers):
    for at, handler in enumerate(handlers):
        if not isinstance(handler, Handler):
            raise BadHandler(at)
    names = []
    for handler in handlers:
        if handler.name in names:
            raise Taken(handler.name)
        names.append(handler.name)
    for kind, what, most in LIMITS:
        if len([handler for handler in handlers if handler.WORD == kind]) > most:
            raise TooMany(what, most)


def _pairs_of(handlers, names):
    """The ascending pairs of the names of handlers that interact, the outer one first."""
    order = [names.index(name) for name in ascending(names)]
    return tuple([
        (names[outer], names[inner]) for outer in order for inner in order
        if outer < inner and handlers[outer].meets(handlers[inner])
    ])


def _handlers_in(value):
    if isinstance(value, Handler):
        return (value,)
    if not isinstance(value, Stack):
        raise BadStack("other")
    return value.handlers


def _named(handler, name):
    """The handler with another name; a choice stays as it is."""
    if isinstance(handler, Cell):
        return Cell(name, handler.size)
    if isinstance(handler, Log):
        return Log(name)
    if isinstance(handler, Failure):
        return Failure(name)
    return handler
