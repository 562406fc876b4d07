"""One run of a program under a stack, deed by deed, from one event to the next one.

A branch goes on with a Rest. The block of a catch of an outer failure is run in a Pen of its own; the
outermost Pen is that of the whole program, and events come up in it alone. Dicts of things are never changed
but replaced, so that branches, guards and Moments can share them.
"""

from layerseen.errors import TooMany
from layerseen.handlers import Cell
from layerseen.programs import Say, Simple

MOST_ENDS = 64
MOST_STEPS = 4000
MOST_WORDS = 200


class Guard:
    """A catch that a branch has come to, and the things as they were then."""

    def __init__(self, name, other, before):
        self.name = name
        self.other = other
        self.before = before


class Rest:
    """What a branch has still to do: a row of deeds, guarded or not, then the Rest behind it, if any."""

    def __init__(self, row, guard, behind):
        self.row = tuple(row)
        self.guard = guard
        self.behind = behind


class Branch:
    """A branch: its own things, its Rest within its Pen, and the failure that it goes on with, if any."""

    def __init__(self, own, rest, failed):
        self.own = own
        self.rest = rest
        self.failed = failed


class Pen:
    """All that a gathered block has come to: branches that wait, the last one first, and results.

    It has no guard if it is an else part or the whole program.
    """

    def __init__(self, guard, follow):
        self.guard = guard
        self.follow = follow
        self.waiting = []
        self.results = []


class Moment:
    """What a run goes on from behind an event: the shared things, the branches that wait, what was counted."""

    def __init__(self, shared, waiting, steps, counted):
        self.shared = shared
        self.waiting = tuple(waiting)
        self.steps = steps
        self.counted = counted


class Run:
    """A run under a stack from a Moment on; the Moment stays as it is.

    The last one of its Pens is the innermost one, in which the branch runs. The word tells the event that has
    come up: ended, failed, broke, stopped or over; failed is the failure of a failed or a broke.
    """

    def __init__(self, stack, moment):
        self.stack = stack
        self.shared = moment.shared
        self.branch = None
        self.pens = [Pen(None, None)]
        self.pens[0].waiting.extend(moment.waiting)
        self.steps = moment.steps
        self.counted = moment.counted
        self.trail = []
        self.word = None
        self.failed = None

    def advance(self):
        """Runs until the next event comes up, and returns its word."""
        self.branch = None
        self.word = None
        while self.word is None:
            self._move()
        return self.word

    def pause(self):
        """The Moment at which the run is."""
        return Moment(self.shared, self.pens[0].waiting, self.steps, self.counted)

    def things(self):
        """All things as they are now, without a branch the shared ones."""
        own = {} if self.branch is None else self.branch.own
        return {**self.shared, **own}

    def change(self, name, value):
        """Gives a thing another value."""
        branch = self.branch
        if name in self.shared:
            self.shared = {**self.shared, name: value}
        else:
            branch.own = {**branch.own, name: value}

    def gather(self, program, guard, follow):
        """Goes on with a program in a Pen of its own; follow is the Rest for each of its results."""
        self.pens.append(Pen(guard, follow))
        self.branch = Branch(self.branch.own, Rest(program, None, None), None)

    def tell(self, word, failed):
        """An event comes up; over alone is not counted."""
        if word != "over":
            self._count()
        self.word = word
        self.failed = failed

    def _move(self):
        branch = self.branch
        if branch is None:
            self._next_branch()
        elif branch.failed is not None:
            self._go_on_failed(branch)
        elif branch.rest is None:
            self._leave_pen(branch)
        elif not branch.rest.row:
            branch.rest = branch.rest.behind
        else:
            self._next_deed(branch)

    def _next_deed(self, branch):
        rest = branch.rest
        deed = rest.row[0]
        self._admit(deed)
        branch.rest = Rest(rest.row[1:], rest.guard, rest.behind)
        action = ACTIONS[deed.WORD]
        action(self, deed)

    def _admit(self, deed):
        """Counts a deed, and refuses it if there is no room for it."""
        if self.steps == MOST_STEPS:
            raise TooMany("steps", MOST_STEPS)
        self.steps = self.steps + 1
        if isinstance(deed, Say) and len(self.things()[deed.log]) == MOST_WORDS:
            raise TooMany("words", MOST_WORDS)
        if isinstance(deed, Simple):
            self.trail.append(deed)

    def _count(self):
        """Counts an end or a result that comes up."""
        if self.counted == MOST_ENDS:
            raise TooMany("ends", MOST_ENDS)
        self.counted = self.counted + 1

    def _leave_pen(self, branch):
        """The branch comes to the end of its Pen, or its inner failure leaves it."""
        if len(self.pens) > 1:
            self._count()
            self.pens[-1].results.append(branch)
            self.branch = None
        elif branch.failed is None:
            self.tell("ended", None)
        else:
            self.tell("failed", branch.failed)

    def _next_branch(self):
        pen = self.pens[-1]
        if pen.waiting:
            # A Moment may keep the branch that waited: it is not changed, a new one goes on.
            waited = pen.waiting.pop()
            self.branch = Branch(waited.own, waited.rest, waited.failed)
        elif len(self.pens) > 1:
            self.pens.pop()
            following = [Branch(result.own, pen.follow, result.failed) for result in pen.results[::-1]]
            self.pens[-1].waiting.extend(following)
        else:
            self.tell("over", None)

    def _go_on_failed(self, branch):
        if branch.failed in self.stack.gathering:
            self._fail_all(branch)
        else:
            self._fail_alone(branch)

    def _fail_alone(self, branch):
        """An inner failure: its catch is looked for within the Pen, else it is a result of the Pen."""
        rest = branch.rest
        while rest is not None and not _guards(rest, branch.failed):
            rest = rest.behind
        if rest is None:
            self._leave_pen(branch)
        else:
            self._take_back(branch.failed, rest.guard.before)
            branch.rest = Rest(rest.guard.other, None, rest.behind)
            branch.failed = None

    def _fail_all(self, branch):
        """An outer failure: all that its catch has come to is dropped, without a catch all ends."""
        name = branch.failed
        while self.pens and not _guards(self.pens[-1], name):
            self.pens.pop()
        if not self.pens:
            self.tell("broke", name)
        else:
            pen = self.pens.pop()
            self._take_back(name, pen.guard.before)
            self.gather(pen.guard.other, None, pen.follow)

    def _take_back(self, name, before):
        branch = self.branch
        taken = self.stack.taken_back(name)
        self.shared = _mixed(self.shared, before, taken)
        branch.own = _mixed(branch.own, before, taken)


def first_moment(program, stack, start):
    """The Moment at the start of a program, with these values of cells; the other ones are 0."""
    own = {name: _first_value(stack.handler(name), start) for name in stack.own}
    shared = {name: _first_value(stack.handler(name), start) for name in stack.shared}
    return Moment(shared, [Branch(own, Rest(program, None, None), None)], 0, 0)


def things_back(stack, failed, things):
    """The things where a failure that nothing catches takes back all that it can."""
    taken = stack.taken_back(failed)
    return {name: _first_value(stack.handler(name), {}) if name in taken else things[name] for name in things}


def _first_value(handler, start):
    return start.get(handler.name, 0) if isinstance(handler, Cell) else ()


def _guards(place, name):
    """Whether a Rest or a Pen is in the block of a catch of this failure."""
    return place.guard is not None and place.guard.name == name


def _mixed(now, before, taken):
    """Things as they are now, those taken back as they were before."""
    return {name: before[name] if name in taken else now[name] for name in now}


def _put(run, deed):
    run.change(deed.cell, deed.value)


def _copy(run, deed):
    most = run.stack.handler(deed.cell).size - 1
    run.change(deed.cell, min(int(run.things()[deed.other]), most))


def _say(run, deed):
    run.change(deed.log, run.things()[deed.log] + (deed.word,))


def _fail(run, deed):
    branch = run.branch
    branch.failed = deed.name


def _leave(run, deed):
    run.branch = None


def _stop(run, deed):
    run.tell("stopped", None)


def _if(run, deed):
    branch = run.branch
    block = deed.block if run.things()[deed.cell] == deed.value else deed.other
    branch.rest = Rest(block, None, branch.rest)


def _catch(run, deed):
    branch = run.branch
    guard = Guard(deed.name, deed.other, run.things())
    if deed.name in run.stack.gathering:
        run.gather(deed.block, guard, branch.rest)
    else:
        branch.rest = Rest(deed.block, guard, branch.rest)


def _choose(run, deed):
    branch = run.branch
    run.pens[-1].waiting.append(Branch(branch.own, Rest(deed.other, None, branch.rest), None))
    branch.rest = Rest(deed.block, None, branch.rest)


ACTIONS = {
    "put": _put,
    "copy": _copy,
    "say": _say,
    "fail": _fail,
    "none": _leave,
    "stop": _stop,
    "if": _if,
    "catch": _catch,
    "choose": _choose,
}
