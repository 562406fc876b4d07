"""Benches: a stack, and programs under names."""

from layerseen.errors import NoChange, NoName, Taken, TooMany
from layerseen.likeness import alike
from layerseen.names import check_name
from layerseen.orders import check_stack
from layerseen.programs import Program
from layerseen.seen import seen
from layerseen.slim import slimmed
from layerseen.values import ascending

MOST_PROGRAMS = 12


class State:
    """What a bench is between two changes; it is never changed itself.

    The word is that of the change that led to it, before is the State ahead of that; both are None where no change
    can be taken back.
    """

    def __init__(self, stack, programs, word, before):
        self.stack = stack
        self.programs = programs
        self.names = ascending(programs)
        self.word = word
        self.before = before


class Bench:
    """A stack, and programs under names, all of which it takes."""

    def __init__(self, stack):
        check_stack(stack, "stack")
        self.now = State(stack, {}, None, None)

    def __len__(self):
        return len(self.now.names)

    def __iter__(self):
        return iter(self.now.names)

    def __contains__(self, name):
        return name in self.now.names

    def __getitem__(self, name):
        if name not in self.now.names:
            raise NoName(name)
        return self.now.programs[name]

    def __setitem__(self, name, program):
        self.put(name, program)

    def __eq__(self, other):
        return (
            isinstance(other, Bench) and self.now.stack == other.now.stack
            and self.now.programs == other.now.programs
        )

    def put(self, name, program):
        """Puts a program under a name, in the place of one that is there."""
        check_name(name)
        self._keep("put", name, program)

    def add(self, name, program):
        """Puts a program under a name that none has."""
        check_name(name)
        if name in self.now.names:
            raise Taken(name)
        self._keep("put", name, program)

    def glue(self, name, *names):
        """Puts under a name what the programs of these names are one after another."""
        check_name(name)
        row = [deed for value in names for deed in self[value]]
        self._keep("put", name, Program(*row))

    def slim(self, name):
        """Leaves out of a program what can be under the stack, and returns how many deeds."""
        found = slimmed(self[name], self.now.stack)
        self._keep("slim", name, found.program)
        return len(found.paths)

    def drop(self, name):
        """Takes a program out."""
        if name not in self.now.names:
            raise NoName(name)
        left = {other: self.now.programs[other] for other in self.now.names if other != name}
        self.now = State(self.now.stack, left, "drop", self.now)

    @property
    def stack_now(self):
        """The stack, which can be assigned."""
        return self.now.stack

    @stack_now.setter
    def stack_now(self, value):
        self.set_stack(value)

    def set_stack(self, stack):
        """Puts another stack in the place of the one that is there."""
        self._check_stack(stack)
        self.now = State(stack, self.now.programs, "stack", self.now)

    def exchange(self, place):
        """Exchanges the handler at a place with the next one, and returns whether they interact."""
        stack = self.now.stack
        other = stack.exchanged(place)
        self.now = State(other, self.now.programs, "exchange", self.now)
        return stack[place].meets(stack[place + 1])

    def play(self, name):
        """The Ends of a program under the stack."""
        return seen(self[name], self.now.stack)

    def alike(self, one, other):
        """What alike tells of two programs under the stack."""
        first = self[one]
        return alike(first, self[other], self.now.stack)

    def unmoved(self, stack):
        """The ascending names of the programs that have the same Ends under another stack."""
        self._check_stack(stack)
        return tuple([name for name in self.now.names if seen(self[name], stack) == self.play(name)])

    @property
    def history(self):
        """The tuple of the words of the changes that are not taken back."""
        words = []
        state = self.now
        while state.before is not None:
            words.append(state.word)
            state = state.before
        return tuple(words[::-1])

    def undo(self):
        """Takes the last change back and returns its word."""
        last = self.now
        if last.before is None:
            raise NoChange()
        self.now = last.before
        return last.word

    def trial(self):
        """What a with statement takes: behind its block the bench is as it was when the block began."""
        return BenchTrial(self)

    def tried(self, work):
        """What work returns for this bench, which is then as it was."""
        with self.trial() as same_bench:
            return work(same_bench)

    def twin(self):
        """An equal bench without changes that can be taken back, which goes its own way."""
        other = Bench(self.now.stack)
        other.now = State(self.now.stack, self.now.programs, None, None)
        return other

    def _keep(self, word, name, program):
        """The change that puts a program under a name."""
        stack, programs = self.now.stack, self.now.programs
        stack.check(program)
        if name not in programs and len(programs) == MOST_PROGRAMS:
            raise TooMany("programs", MOST_PROGRAMS)
        self.now = State(stack, {**programs, name: program}, word, self.now)

    def _check_stack(self, stack):
        """Refuses any value that is no Stack, or one that does not take all programs."""
        check_stack(stack, "stack")
        for name in self.now.names:
            stack.check(self.now.programs[name])


class BenchTrial:
    """A block behind which a bench is as it was when the block began."""

    def __init__(self, bench):
        self.bench = bench
        self.now = None

    def __enter__(self):
        self.now = self.bench.now
        return self.bench

    def __exit__(self, kind, value, trace):
        bench = self.bench
        bench.now = self.now
