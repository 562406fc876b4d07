"""One run of a program under a stack, deed by deed.

A branch goes on with a Rest. The block of a catch of an outer failure is run in a Pen of its own; the
outermost Pen is that of the whole program. Dicts of things are never changed but replaced, so that branches
and guards can share them.
"""

from layerseen.ends import End
from layerseen.errors import TooMany
from layerseen.handlers import Cell
from layerseen.programs import Say, Simple
from layerseen.values import ascending

MOST_ENDS = 64
MOST_STEPS = 4000
MOST_WORDS = 200


class Guard:
    """A catch that a branch has come to, and the things as they were then."""

    def __init__(self, name, other, before):
        self.name = name
        self.other = other
        self.before = before


class Rest:
    """What a branch has still to do: a row of deeds, guarded or not, then the Rest behind it, if any."""

    def __init__(self, row, guard, behind):
        self.row = tuple(row)
        self.guard = guard
        self.behind = behind


class Branch:
    """A branch: its own things, its Rest within its Pen, and the failure that it goes on with, if any."""

    def __init__(self, own, rest, failed):
        self.own = own
        self.rest = rest
        self.failed = failed


class Pen:
    """All that a gathered block has come to: branches that wait, the last one first, and results.

    It has no guard if it is an else part or the whole program.
    """

    def __init__(self, guard, follow):
        self.guard = guard
        self.follow = follow
        self.waiting = []
        self.results = []


class Run:
    """A run of a program under a stack that takes it.

    The last one of its Pens is the innermost one, in which the branch runs.
    """

    def __init__(self, program, stack):
        self.stack = stack
        self.start = {name: _first_value(stack.handler(name)) for name in stack.shared + stack.own}
        self.shared = {name: self.start[name] for name in stack.shared}
        own = {name: self.start[name] for name in stack.own}
        self.branch = Branch(own, Rest(program, None, None), None)
        self.pens = [Pen(None, None)]
        self.ends = []
        self.trail = []
        self.steps = 0
        self.counted = 0
        self.done = False

    def play(self):
        """Runs all that is left to run."""
        while not self.done:
            self._move()

    def things(self):
        """All things as they are now."""
        return {**self.shared, **self.branch.own}

    def change(self, name, value):
        """Gives a thing another value."""
        branch = self.branch
        if name in self.shared:
            self.shared = {**self.shared, name: value}
        else:
            branch.own = {**branch.own, name: value}

    def gather(self, program, guard, follow):
        """Goes on with a program in a Pen of its own; follow is the Rest for each of its results."""
        self.pens.append(Pen(guard, follow))
        self.branch = Branch(self.branch.own, Rest(program, None, None), None)

    def give_end(self, failed):
        """Gives an end of the program."""
        self._count()
        if failed is not None:
            self._take_back(failed, self.start)
        things = self.things()
        cells = {name: things[name] for name in ascending(things) if self._is_cell(name)}
        logs = {name: things[name] for name in ascending(things) if not self._is_cell(name)}
        self.ends.append(End(failed, cells, logs))

    def _move(self):
        branch = self.branch
        if branch is None:
            self._next_branch()
        elif branch.failed is not None:
            self._go_on_failed(branch)
        elif branch.rest is None:
            self._leave_pen(branch)
        elif not branch.rest.row:
            branch.rest = branch.rest.behind
        else:
            self._next_deed(branch)

    def _next_deed(self, branch):
        rest = branch.rest
        deed = rest.row[0]
        self._admit(deed)
        branch.rest = Rest(rest.row[1:], rest.guard, rest.behind)
        action = ACTIONS[deed.WORD]
        action(self, deed)

    def _admit(self, deed):
        """Counts a deed, and refuses it if there is no room for it."""
        if self.steps == MOST_STEPS:
            raise TooMany("steps", MOST_STEPS)
        self.steps = self.steps + 1
        if isinstance(deed, Say) and len(self.things()[deed.log]) == MOST_WORDS:
            raise TooMany("words", MOST_WORDS)
        if isinstance(deed, Simple):
            self.trail.append(deed)

    def _count(self):
        """Counts an end or a result that comes up."""
        if self.counted == MOST_ENDS:
            raise TooMany("ends", MOST_ENDS)
        self.counted = self.counted + 1

    def _leave_pen(self, branch):
        """The branch comes to the end of its Pen, or its inner failure leaves it."""
        if len(self.pens) > 1:
            self._count()
            self.pens[-1].results.append(branch)
        else:
            self.give_end(branch.failed)
        self.branch = None

    def _next_branch(self):
        pen = self.pens[-1]
        if pen.waiting:
            self.branch = pen.waiting.pop()
        elif len(self.pens) > 1:
            self.pens.pop()
            following = [Branch(result.own, pen.follow, result.failed) for result in pen.results[::-1]]
            self.pens[-1].waiting.extend(following)
        else:
            self.done = True

    def _go_on_failed(self, branch):
        if branch.failed in self.stack.gathering:
            self._fail_all(branch)
        else:
            self._fail_alone(branch)

    def _fail_alone(self, branch):
        """An inner failure: its catch is looked for within the Pen, else it is a result of the Pen."""
        rest = branch.rest
        while rest is not None and not _guards(rest, branch.failed):
            rest = rest.behind
        if rest is None:
            self._leave_pen(branch)
        else:
            self._take_back(branch.failed, rest.guard.before)
            branch.rest = Rest(rest.guard.other, None, rest.behind)
            branch.failed = None

    def _fail_all(self, branch):
        """An outer failure: all that its catch has come to is dropped, without a catch all ends."""
        name = branch.failed
        while self.pens and not _guards(self.pens[-1], name):
            self.pens.pop()
        if not self.pens:
            self.ends = []
            self.give_end(name)
            self.done = True
        else:
            pen = self.pens.pop()
            self._take_back(name, pen.guard.before)
            self.gather(pen.guard.other, None, pen.follow)

    def _take_back(self, name, before):
        branch = self.branch
        taken = self.stack.taken_back(name)
        self.shared = _mixed(self.shared, before, taken)
        branch.own = _mixed(branch.own, before, taken)

    def _is_cell(self, name):
        return isinstance(self.stack.handler(name), Cell)


def _first_value(handler):
    return 0 if isinstance(handler, Cell) else ()


def _guards(place, name):
    """Whether a Rest or a Pen is in the block of a catch of this failure."""
    return place.guard is not None and place.guard.name == name


def _mixed(now, before, taken):
    """Things as they are now, those taken back as they were before."""
    return {name: before[name] if name in taken else now[name] for name in now}


def _put(run, deed):
    run.change(deed.cell, deed.value)


def _copy(run, deed):
    most = run.stack.handler(deed.cell).size - 1
    run.change(deed.cell, min(int(run.things()[deed.other]), most))


def _say(run, deed):
    run.change(deed.log, run.things()[deed.log] + (deed.word,))


def _fail(run, deed):
    branch = run.branch
    branch.failed = deed.name


def _leave(run, deed):
    run.branch = None


def _stop(run, deed):
    run.give_end(None)
    run.done = True


def _if(run, deed):
    branch = run.branch
    block = deed.block if run.things()[deed.cell] == deed.value else deed.other
    branch.rest = Rest(block, None, branch.rest)


def _catch(run, deed):
    branch = run.branch
    guard = Guard(deed.name, deed.other, run.things())
    if deed.name in run.stack.gathering:
        run.gather(deed.block, guard, branch.rest)
    else:
        branch.rest = Rest(deed.block, guard, branch.rest)


def _choose(run, deed):
    branch = run.branch
    run.pens[-1].waiting.append(Branch(branch.own, Rest(deed.other, None, branch.rest), None))
    branch.rest = Rest(deed.block, None, branch.rest)


ACTIONS = {
    "put": _put,
    "copy": _copy,
    "say": _say,
    "fail": _fail,
    "none": _leave,
    "stop": _stop,
    "if": _if,
    "catch": _catch,
    "choose": _choose,
}
