"""Deeds that can be left out of a program, since nobody can miss them."""

from layerseen.errors import BadProgram, BadStack
from layerseen.orders import check_stack
from layerseen.paths import deed_on
from layerseen.programs import Program
from layerseen.tables import table_about
from layerseen.values import Paper, copied


class Slim(Paper):
    """What is left of a program, and the paths of the deeds that were left out, each as it was then."""

    def __init__(self, program, paths):
        self.program = copied(program)
        self.paths = copied(paths)

    def __eq__(self, other):
        return isinstance(other, Slim) and self.program == other.program and self.paths == other.paths

    def contents(self):
        return (self.program, self.paths)

    def anew(self):
        return Slim(self.program, self.paths)


class Pruning:
    """A program under some stacks, of which a deed is left out by way of trial."""

    def __init__(self, program, stacks):
        self.program = program
        self.names = [*program.cells, *program.logs]
        self.under = stacks
        self.tables = {}

    def is_idle(self, path):
        """Whether a deed can be left out; all stacks are asked, also behind one under which it cannot."""
        shorter = self.program.without(path)
        return all([
            self._table_under(at) == table_about(shorter, stack, self.names) for at, stack in enumerate(self.under)
        ])

    def _table_under(self, at):
        """The table of the whole program under the stack with this index."""
        if at not in self.tables:
            self.tables[at] = table_about(self.program, self.under[at], self.names)
        return self.tables[at]


def idle(program, *stacks):
    """The paths of all deeds that can be left out, one of them alone, in order."""
    _check(program, stacks)
    return _idle_paths(program, stacks)


def slimmed(program, *stacks):
    """The Slim of leaving out the first deed that can be, until none can."""
    _check(program, stacks)
    paths = []
    found = _idle_paths(program, stacks)
    while found:
        paths.append(found[0])
        program = program.without(found[0])
        found = _first_idle(program, stacks)
    return Slim(program, tuple(paths))


def shows_slim(program, paper, *stacks):
    """Whether any value is a Slim of deeds that can be left out one after another, until none can."""
    _check(program, stacks)
    # What idle refuses is refused whatever the paper is.
    _idle_paths(program, stacks)
    if not isinstance(paper, Slim) or not isinstance(paper.paths, tuple):
        return False
    for path in paper.paths:
        if deed_on(path, program) is None or not Pruning(program, stacks).is_idle(path):
            return False
        program = program.without(path)
    return program == paper.program and len(_first_idle(program, stacks)) == 0


def _check(program, stacks):
    """Refuses any values that are not a Program and at least one Stack, all of which take it."""
    if not isinstance(program, Program):
        raise BadProgram("program")
    if not stacks:
        raise BadStack("stacks")
    for at, stack in enumerate(stacks):
        check_stack(stack, at)
    for stack in stacks:
        stack.check(program)


def _idle_paths(program, stacks):
    pruning = Pruning(program, stacks)
    return tuple([path for path in program.walk() if pruning.is_idle(path)])


def _first_idle(program, stacks):
    """The tuple of the path of the first deed that can be left out; it is empty if there is none."""
    pruning = Pruning(program, stacks)
    for path in program.walk():
        if pruning.is_idle(path):
            return (path,)
    return ()
