"""A second player, made of calls instead of a machine: what follows is passed on as functions.

A branch that comes to the end of a row calls `done(own)`; one that an inner failure ends calls
`failed(name, own)`. An outer failure and a stop leave the calls as Python errors.
"""

from layerseen.ends import End
from layerseen.errors import TooMany
from layerseen.handlers import Cell
from layerseen.programs import Catch, Choose, Copy, Fail, If, Leave, Put, Say


class OuterFailure(Exception):
    pass


class Stopped(Exception):
    pass


class Model:
    def __init__(self, program, stack):
        self.set_up(stack, {})
        self.play(program)

    def set_up(self, stack, start):
        """Before the run; start has values of some cells."""
        self.stack = stack
        self.names = [handler.name for handler in stack]
        things = [handler for handler in stack if handler.WORD in ("cell", "log")]
        self.cells = sorted(handler.name for handler in things if isinstance(handler, Cell))
        self.logs = sorted(handler.name for handler in things if not isinstance(handler, Cell))
        self.start = {handler.name: start.get(handler.name, 0) if isinstance(handler, Cell) else () for handler in things}
        self.common = {name: self.start[name] for name in self.start if self.outside_choice(name)}
        self.ends, self.trail, self.counted, self.steps = [], [], 0, 0

    def play(self, program):
        own = {name: self.start[name] for name in self.start if not self.outside_choice(name)}
        try:
            self.row(tuple(program), own, self.end, self.end_failed)
        except Stopped:
            pass
        except OuterFailure as error:
            self.break_off(*error.args)

    def outside_choice(self, name):
        return "choice" in self.names and self.names.index(name) < self.names.index("choice")

    def count(self):
        self.counted += 1
        if self.counted > 64:
            raise TooMany("ends", 64)

    def shown(self, failed, own):
        things = {**self.common, **own}
        return End(failed, {name: things[name] for name in self.cells}, {name: things[name] for name in self.logs})

    def back(self, name, own, before):
        """Takes things back; returns the own ones."""
        inside = self.names[self.names.index(name):]
        for thing in self.common:
            if thing in inside:
                self.common[thing] = before[thing]
        return {thing: before[thing] if thing in inside else own[thing] for thing in own}

    def end(self, own):
        self.count()
        self.ends.append(self.shown(None, own))

    def end_failed(self, name, own):
        self.count()
        self.ends.append(self.shown(name, self.back(name, own, self.start)))

    def break_off(self, name, own):
        self.count()
        self.ends = [self.shown(name, self.back(name, own, self.start))]

    def stop(self, own):
        self.count()
        self.ends.append(self.shown(None, own))

    def row(self, deeds, own, done, failed):
        if not deeds:
            done(own)
            return
        deed, rest = deeds[0], deeds[1:]
        if self.steps == 4000:
            raise TooMany("steps", 4000)
        self.steps += 1
        things = {**self.common, **own}
        if isinstance(deed, Say) and len(things[deed.log]) >= 200:
            raise TooMany("words", 200)

        def follow(own):
            self.row(rest, own, done, failed)

        if isinstance(deed, If):
            self.row(tuple(deed.block if things[deed.cell] == deed.value else deed.other), own, follow, failed)
        elif isinstance(deed, Choose):
            self.row(tuple(deed.block), dict(own), follow, failed)
            self.row(tuple(deed.other), dict(own), follow, failed)
        elif isinstance(deed, Catch) and self.outside_choice(deed.name):
            self.gather(deed, own, things, follow, failed)
        elif isinstance(deed, Catch):
            def caught(name, own):
                if name == deed.name:
                    self.row(tuple(deed.other), self.back(name, own, things), follow, failed)
                else:
                    failed(name, own)
            self.row(tuple(deed.block), own, follow, caught)
        else:
            self.trail.append(deed)
            self.simple(deed, own, things, follow, failed)

    def simple(self, deed, own, things, follow, failed):
        if isinstance(deed, Put):
            follow(self.set(own, deed.cell, deed.value))
        elif isinstance(deed, Copy):
            size = [handler.size for handler in self.stack if handler.name == deed.cell][0]
            value = things[deed.other]
            follow(self.set(own, deed.cell, value if value < size else size - 1))
        elif isinstance(deed, Say):
            follow(self.set(own, deed.log, (*things[deed.log], deed.word)))
        elif isinstance(deed, Fail):
            if self.outside_choice(deed.name):
                raise OuterFailure(deed.name, own)
            failed(deed.name, own)
        elif not isinstance(deed, Leave):
            self.stop(own)
            raise Stopped

    def set(self, own, name, value):
        if name in self.common:
            self.common[name] = value
            return own
        return {**own, name: value}

    def gather(self, deed, own, before, follow, failed):
        results = []

        def keep(name):
            def note(own):
                self.count()
                results.append((name, own))
            return note

        def keep_failed(name, own):
            keep(name)(own)

        try:
            self.row(tuple(deed.block), own, keep(None), keep_failed)
        except OuterFailure as error:
            if error.args[0] != deed.name:
                raise
            results.clear()
            self.row(tuple(deed.other), self.back(deed.name, own, before), keep(None), keep_failed)
        for name, own in list(results):
            if name is None:
                follow(own)
            else:
                failed(name, own)


def model_of(program, stack):
    """The ends, the trail, and the fields of the TooMany of a run, None if there is none."""
    made = Model.__new__(Model)
    refused = None
    try:
        made.__init__(program, stack)
    except TooMany as error:
        refused = (error.what, error.most)
    return tuple(made.ends), made.trail, refused
