"""Talks with a program: the events that it tells, and the replies of the surroundings."""

from layerseen.ends import parts_told
from layerseen.errors import BadProgram, BadTalk
from layerseen.orders import check_stack
from layerseen.programs import Program
from layerseen.scenes import Scene, all_values, are_values, is_cell_of, is_log_of, sizes_of
from layerseen.values import Paper, copied


class Event(Paper):
    """The base of all events; it is not made itself."""


class Ended(Event):
    """A branch came to the end of the program."""

    WORD = "ended"

    def __init__(self, cells, logs):
        self.cells = copied(cells)
        self.logs = copied(logs)

    def __eq__(self, other):
        return isinstance(other, Ended) and self.cells == other.cells and self.logs == other.logs

    def __str__(self):
        return " ; ".join(parts_told(Ended.WORD, self.cells, self.logs))

    def contents(self):
        return (self.cells, self.logs)

    def anew(self):
        return Ended(self.cells, self.logs)


class Failed(Event):
    """An inner failure that nothing in the program catches."""

    WORD = "failed"

    def __init__(self, name, cells, logs):
        self.name = copied(name)
        self.cells = copied(cells)
        self.logs = copied(logs)

    def __eq__(self, other):
        return (
            isinstance(other, Failed) and self.name == other.name
            and self.cells == other.cells and self.logs == other.logs
        )

    def __str__(self):
        return " ; ".join(parts_told(f"{Failed.WORD} {self.name}", self.cells, self.logs))

    def contents(self):
        return (self.name, self.cells, self.logs)

    def anew(self):
        return Failed(self.name, self.cells, self.logs)


class Broke(Event):
    """An outer failure that nothing in the program catches."""

    WORD = "broke"

    def __init__(self, name, cells, logs):
        self.name = copied(name)
        self.cells = copied(cells)
        self.logs = copied(logs)

    def __eq__(self, other):
        return (
            isinstance(other, Broke) and self.name == other.name
            and self.cells == other.cells and self.logs == other.logs
        )

    def __str__(self):
        return " ; ".join(parts_told(f"{Broke.WORD} {self.name}", self.cells, self.logs))

    def contents(self):
        return (self.name, self.cells, self.logs)

    def anew(self):
        return Broke(self.name, self.cells, self.logs)


class Stopped(Event):
    """The program was stopped."""

    WORD = "stopped"

    def __init__(self, cells, logs):
        self.cells = copied(cells)
        self.logs = copied(logs)

    def __eq__(self, other):
        return isinstance(other, Stopped) and self.cells == other.cells and self.logs == other.logs

    def __str__(self):
        return " ; ".join(parts_told(Stopped.WORD, self.cells, self.logs))

    def contents(self):
        return (self.cells, self.logs)

    def anew(self):
        return Stopped(self.cells, self.logs)


class Over(Event):
    """No branch is left."""

    WORD = "over"

    def __init__(self, cells, logs):
        self.cells = copied(cells)
        self.logs = copied(logs)

    def __eq__(self, other):
        return isinstance(other, Over) and self.cells == other.cells and self.logs == other.logs

    def __str__(self):
        return " ; ".join(parts_told(Over.WORD, self.cells, self.logs))

    def contents(self):
        return (self.cells, self.logs)

    def anew(self):
        return Over(self.cells, self.logs)


class Talk:
    """A talk with a program under a stack about some of its cells and logs.

    Its turns alone tell how it stands. The attributes that callers can reach into are copies of them.
    """

    def __init__(self, program, stack, start, *logs):
        if not isinstance(program, Program):
            raise BadProgram("program")
        check_stack(stack, "stack")
        stack.check(program)
        if not _is_start(program, stack, start):
            raise BadTalk("start")
        if not all([is_log_of(stack, name) for name in logs]):
            raise BadTalk("logs")
        self.program = program
        self.stack = stack
        self.scene = Scene(program, stack, [*start, *logs])
        self.begun = {cell: start[cell] for cell in self.scene.cells}
        self.start = dict(self.begun)
        self.asked = self.scene.asked
        self._set_turns((self.scene.begin(self.begun),))

    def __len__(self):
        return len(self.turns)

    def __iter__(self):
        return iter(self.events)

    def __getitem__(self, at):
        if isinstance(at, int):
            return event_of(self.turns[at])
        return tuple([event_of(turn) for turn in self.turns[at]])

    def __contains__(self, event):
        return event in [event_of(turn) for turn in self.turns]

    def __eq__(self, other):
        return (
            isinstance(other, Talk) and self.program == other.program and self.stack == other.stack
            and self.begun == other.begun and self.scene.logs == other.scene.logs
            and [turn.answer for turn in self.turns] == [turn.answer for turn in other.turns]
        )

    def __str__(self):
        return " / ".join([str(event_of(turn)) for turn in self.turns])

    def __call__(self, values):
        return self.reply(values)

    def __iadd__(self, values):
        self.reply(values)
        return self

    @property
    def is_over(self):
        """Whether no reply can follow."""
        return self.turns[-1].moment is None

    def reply(self, values):
        """Sets the shared cells and returns the next event."""
        if self.is_over:
            raise BadTalk("over")
        if not are_values(values, self.scene.asked_sizes):
            raise BadTalk("reply")
        turn = self.scene.go_on(self.turns[-1].moment, values)
        self._set_turns((*self.turns, turn))
        return event_of(turn)

    def run(self, *values):
        """Replies several times at one stroke and returns the list of the events."""
        other = self.twin()
        events = [other.reply(value) for value in values]
        self._set_turns(other.turns)
        return events

    def undo(self):
        """Takes back the last reply and returns whether there was one."""
        if len(self.turns) == 1:
            return False
        self._set_turns(self.turns[:-1])
        return True

    def twin(self):
        """An equal Talk that goes its own way."""
        logs = self.scene.logs
        other = Talk(self.program, self.stack, self.begun, *logs)
        other._set_turns(self.turns)
        return other

    def trial(self):
        """What a with statement takes: behind its block the talk is as it was when the block began."""
        return Trial(self)

    def tried(self, work):
        """What work returns for this talk, which is then as it was."""
        with self.trial() as same_talk:
            return work(same_talk)

    def _set_turns(self, turns):
        self.turns = turns
        self.events = tuple([event_of(turn) for turn in turns])
        self.replies = tuple([dict(turn.answer) for turn in turns[1:]])


class Trial:
    """A block behind which a talk is as it was when the block began."""

    def __init__(self, talk):
        self.talk = talk
        self.turns = ()
        self.events = ()
        self.replies = ()

    def __enter__(self):
        self.turns = self.talk.turns
        self.events = self.talk.events
        self.replies = self.talk.replies
        return self.talk

    def __exit__(self, kind, value, trace):
        talk = self.talk
        talk.turns = self.turns
        talk.events = self.events
        talk.replies = self.replies


def event_of(turn):
    """The event that a Turn tells."""
    if turn.word == Failed.WORD:
        return Failed(turn.failed, turn.cells, turn.logs)
    if turn.word == Broke.WORD:
        return Broke(turn.failed, turn.cells, turn.logs)
    if turn.word == Ended.WORD:
        return Ended(turn.cells, turn.logs)
    if turn.word == Stopped.WORD:
        return Stopped(turn.cells, turn.logs)
    return Over(turn.cells, turn.logs)


def starts(stack, *cells):
    """Yields all dicts from these cells to values of them, in the order of the values."""
    yield from all_values(_sizes_for(stack, cells, False))


def replies(stack, *cells):
    """Yields all dicts from the shared ones among these cells to values of them, in the order of the values."""
    yield from all_values(_sizes_for(stack, cells, True))


def _sizes_for(stack, cells, only_shared):
    check_stack(stack, "stack")
    if not all([is_cell_of(stack, name) for name in cells]):
        raise BadTalk("cells")
    return sizes_of(stack, [name for name in cells if name in stack.shared or not only_shared])


def _is_start(program, stack, value):
    """Whether any value is a dict from cells of the stack, with all that the program names, to values of them."""
    if not isinstance(value, dict) or not all([is_cell_of(stack, name) for name in value]):
        return False
    return all([name in value for name in program.cells]) and are_values(value, sizes_of(stack, value))
