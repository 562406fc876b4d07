"""A second way to go through talks: the second player, with events in the place of ends."""

import itertools

from layerseen.errors import TooMany
from layerseen.talks import Broke, Ended, Failed, Over, Stopped
from tests import oracle_player


class Unanswered(Exception):
    """There is no reply to an event."""


class TalkModel(oracle_player.Model):
    """A talk about some cells and logs, with replies that are given at once."""

    def __init__(self, program, stack, start, logs, replies):
        self.set_up(stack, start)
        self.about = [*start, *program.cells, *program.logs, *logs]
        self.left = list(replies)
        self.events = []
        self.over = False
        try:
            self.play(program)
            if not self.over:
                self.tell(Over, list(self.common), {})
                self.over = True
        except Unanswered:
            pass

    def tell(self, made, told, own, *name):
        things = {**self.common, **own}
        cells = {name: things[name] for name in self.cells if name in told and name in self.about}
        logs = {name: things[name] for name in self.logs if name in told and name in self.about}
        self.events.append(made(*name, cells, logs))

    def kept(self, name):
        return self.names[:self.names.index(name)]

    def answer(self):
        if not self.left:
            raise Unanswered
        for name, value in self.left.pop(0).items():
            self.common[name] = value
        for name in self.common:
            if name in self.logs:
                self.common[name] = ()

    def end(self, own):
        self.count()
        self.tell(Ended, self.names, own)
        self.answer()

    def end_failed(self, name, own):
        self.count()
        self.tell(Failed, self.kept(name), own, name)
        self.answer()

    def break_off(self, name, own):
        self.count()
        self.tell(Broke, self.kept(name), own, name)
        self.over = True

    def stop(self, own):
        self.count()
        self.tell(Stopped, self.names, own)
        self.over = True


def talk_of(program, stack, start, logs, replies):
    """The events, whether the talk is over, and the fields of the TooMany that refuses it, or None."""
    made = TalkModel.__new__(TalkModel)
    try:
        made.__init__(program, stack, start, logs, replies)
    except TooMany as error:
        return made.events, False, (error.what, error.most)
    return made.events, made.over, None


def values_of(stack, cells):
    """All dicts from some cells to values of them, in order."""
    names = sorted(set(cells))
    ranges = [range(handler.size) for name in names for handler in stack if handler.name == name]
    return [dict(zip(names, row)) for row in itertools.product(*ranges)]


def shared_of(stack, cells):
    """Those of some cells that stand outside the choice."""
    names = [handler.name for handler in stack]
    return [name for name in cells if "choice" in names and names.index(name) < names.index("choice")]


def table_of(program, stack, cells, logs):
    """The rows of the least table, and all talks as lists of the start, the replies and the events."""
    replies = values_of(stack, shared_of(stack, sorted(set(cells))))
    rows, talks = [], []

    def pair(start, answers):
        events, over, refused = talk_of(program, stack, start, logs, answers)
        assert refused is None
        if over:
            talks.append((start, tuple(answers), tuple(events)))
            return (events[-1], None)
        return (events[-1], number([pair(start, [*answers, reply]) for reply in replies]))

    def number(row):
        if tuple(row) not in rows:
            rows.append(tuple(row))
        return rows.index(tuple(row))

    number([pair(start, []) for start in values_of(stack, cells)])
    return tuple(rows), talks
