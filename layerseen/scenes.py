"""What a talk is about, and how it goes on from one event to the next one."""

from layerseen.handlers import Cell, Log
from layerseen.machine import Moment, Run, first_moment
from layerseen.values import ascending, is_index


class Turn:
    """An event that a program tells behind an answer of the surroundings, None at the start.

    The moment is what the talk goes on from, None if it is over.
    """

    def __init__(self, answer, run, cells, logs):
        self.answer = answer
        self.word = run.word
        self.failed = run.failed
        self.cells = cells
        self.logs = logs
        self.moment = run.pause() if run.word in ("ended", "failed") else None


class Scene:
    """A program under a stack that takes it, and the things of a talk, all that the program names among them."""

    def __init__(self, program, stack, names):
        self.program = program
        self.stack = stack
        self.cells = ascending([name for name in [*program.cells, *names] if is_cell_of(stack, name)])
        self.logs = ascending([name for name in [*program.logs, *names] if is_log_of(stack, name)])
        self.asked = tuple([name for name in self.cells if name in stack.shared])
        self.sizes = sizes_of(stack, self.cells)
        self.asked_sizes = sizes_of(stack, self.asked)

    def begin(self, start):
        """The first Turn, with these values of the cells."""
        return self._played(None, first_moment(self.program, self.stack, start))

    def go_on(self, moment, values):
        """The next Turn, with these values of the shared cells; words that were told are not told again."""
        answer = {name: values[name] for name in self.asked}
        logs = {name: () for name in self.logs if name in moment.shared}
        shared = {**moment.shared, **logs, **answer}
        return self._played(answer, Moment(shared, moment.waiting, moment.steps, moment.counted))

    def _played(self, answer, moment):
        run = Run(self.stack, moment)
        run.advance()
        things = run.things()
        told = list(things) if run.failed is None else self.stack.kept(run.failed)
        cells = {name: things[name] for name in self.cells if name in told}
        logs = {name: things[name] for name in self.logs if name in told}
        return Turn(answer, run, cells, logs)


def is_cell_of(stack, value):
    """Whether any value is the name of a cell of a stack."""
    return value in stack and isinstance(stack.handler(value), Cell)


def is_log_of(stack, value):
    """Whether any value is the name of a log of a stack."""
    return value in stack and isinstance(stack.handler(value), Log)


def sizes_of(stack, cells):
    """The ascending tuple of the pairs of a cell and its size."""
    return tuple([(name, stack.handler(name).size) for name in ascending(cells)])


def are_values(value, sizes):
    """Whether any value is a dict from just these cells to values that they can hold."""
    return (
        isinstance(value, dict) and len(value) == len(sizes)
        and all([name in value and is_index(value[name], size) for name, size in sizes])
    )


def all_values(sizes):
    """All dicts from these cells to values of them, in the order of the values, the first cell first."""
    rows = [{}]
    for name, size in sizes:
        rows = [{**row, name: value} for row in rows for value in range(size)]
    return rows


def place_of(values, sizes):
    """The index of a dict in all_values."""
    place = 0
    for name, size in sizes:
        place = place * size + values[name]
    return place
