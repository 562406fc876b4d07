"""Programs, and the deeds that they are made of.

Each deed has its arguments, in order, in the tuple fields, too.
"""

from layerseen.errors import BadDeed, BadNumber, BadProgram, BadWord, NoPlace, TooMany
from layerseen.grammar import MOST_NESTED, MOST_VALUE, whole_deed, whole_program
from layerseen.names import check_name, is_renaming, is_word
from layerseen.paths import deed_on
from layerseen.shapes import names_in, renamed_fields, values_in
from layerseen.values import ascending, is_index, is_whole

MOST_DEEDS = 60
LEAST_SIZE = 2


class Deed:
    """The base of all deeds; it is not made itself."""

    @classmethod
    def read(cls, text):
        """The deed with just this text, of whatever class."""
        return _deed_from(whole_deed(text))

    def blocks(self):
        """The Programs within this deed."""
        return ()


class Simple(Deed):
    """A deed without blocks; it is not made itself."""


class Blocked(Deed):
    """A deed with a block and another one; it is not made itself."""

    def blocks(self):
        return (self.block, self.other)


class Put(Simple):
    """Sets a cell to a value."""

    WORD = "put"

    def __init__(self, cell, value):
        check_name(cell)
        _check_value(value)
        self.cell = cell
        self.value = value
        self.fields = (cell, value)

    def __eq__(self, other):
        return isinstance(other, Put) and self.fields == other.fields

    def __str__(self):
        return f"put {self.cell} {self.value}"


class Copy(Simple):
    """Sets a cell to the value of another one, or to the greatest that it can hold."""

    WORD = "copy"

    def __init__(self, cell, other):
        check_name(cell)
        check_name(other)
        self.cell = cell
        self.other = other
        self.fields = (cell, other)

    def __eq__(self, other):
        return isinstance(other, Copy) and self.fields == other.fields

    def __str__(self):
        return f"copy {self.cell} {self.other}"


class Say(Simple):
    """Adds a word to a log."""

    WORD = "say"

    def __init__(self, log, word):
        check_name(log)
        if not is_word(word):
            raise BadWord(word)
        self.log = log
        self.word = word
        self.fields = (log, word)

    def __eq__(self, other):
        return isinstance(other, Say) and self.fields == other.fields

    def __str__(self):
        return f"say {self.log} {self.word}"


class Fail(Simple):
    """Goes to the nearest catch of a failure."""

    WORD = "fail"

    def __init__(self, name):
        check_name(name)
        self.name = name
        self.fields = (name,)

    def __eq__(self, other):
        return isinstance(other, Fail) and self.fields == other.fields

    def __str__(self):
        return f"fail {self.name}"


class Leave(Simple):
    """Gives its branch up."""

    WORD = "none"

    def __init__(self):
        self.fields = ()

    def __eq__(self, other):
        return isinstance(other, Leave)

    def __str__(self):
        return "none"


class Stop(Simple):
    """Ends the program."""

    WORD = "stop"

    def __init__(self):
        self.fields = ()

    def __eq__(self, other):
        return isinstance(other, Stop)

    def __str__(self):
        return "stop"


class If(Blocked):
    """Goes on with its block if a cell holds a value, otherwise with the other one."""

    WORD = "if"

    def __init__(self, cell, value, block, other=None):
        check_name(cell)
        _check_value(value)
        self.cell = cell
        self.value = value
        self.block = _block_of(block)
        self.other = _other_of(other)
        self.fields = (cell, value, self.block, self.other)

    def __eq__(self, other):
        return isinstance(other, If) and self.fields == other.fields

    def __str__(self):
        return f"if {self.cell} = {self.value} ( {self.block} ) else ( {self.other} )"


class Catch(Blocked):
    """Goes on with its block, and with the other one if that fails with this failure."""

    WORD = "catch"

    def __init__(self, name, block, other=None):
        check_name(name)
        self.name = name
        self.block = _block_of(block)
        self.other = _other_of(other)
        self.fields = (name, self.block, self.other)

    def __eq__(self, other):
        return isinstance(other, Catch) and self.fields == other.fields

    def __str__(self):
        return f"catch {self.name} ( {self.block} ) else ( {self.other} )"


class Choose(Blocked):
    """Goes on with its block, and in a new branch with the other one."""

    WORD = "choose"

    def __init__(self, block, other=None):
        self.block = _block_of(block)
        self.other = _other_of(other)
        self.fields = (self.block, self.other)

    def __eq__(self, other):
        return isinstance(other, Choose) and self.fields == other.fields

    def __str__(self):
        return f"choose ( {self.block} ) or ( {self.other} )"


class Program:
    """A row of deeds."""

    def __init__(self, *deeds):
        for at, deed in enumerate(deeds):
            if not isinstance(deed, Deed):
                raise BadDeed(at)
        blocks = [block for deed in deeds for block in deed.blocks()]
        self.deeds = deeds
        self.size = len(deeds) + sum([block.size for block in blocks])
        self.depth = max([int(block.depth) + 1 for block in blocks], default=0)
        if self.size > MOST_DEEDS:
            raise TooMany("deeds", MOST_DEEDS)
        if self.depth > MOST_NESTED:
            raise TooMany("nested", MOST_NESTED)
        self.used_names = names_in(deeds)
        self.used_values = values_in(deeds)
        self.cells = ascending([name for kind, name in self.used_names if kind == "cell"])
        self.logs = ascending([name for kind, name in self.used_names if kind == "log"])
        self.failures = ascending([name for kind, name in self.used_names if kind == "failure"])
        self.chooses = any([isinstance(deed, Choose) for deed in deeds] + [block.chooses for block in blocks])

    @staticmethod
    def of(deeds):
        """The Program of a list or tuple of deeds."""
        if not isinstance(deeds, (list, tuple)):
            raise BadProgram("deeds")
        return Program(*deeds)

    @classmethod
    def read(cls, text):
        """The Program with just this text."""
        return program_from(whole_program(text))

    def __len__(self):
        return len(self.deeds)

    def __iter__(self):
        return iter(self.deeds)

    def __getitem__(self, at):
        if isinstance(at, int):
            return self.deeds[at]
        row = self.deeds[at]
        return Program(*row)

    def __contains__(self, value):
        for deed in self.deeds:
            if deed == value or any([value in block for block in deed.blocks()]):
                return True
        return False

    def __eq__(self, other):
        return isinstance(other, Program) and self.deeds == other.deeds

    def __str__(self):
        if not self.deeds:
            return "skip"
        return " ; ".join([str(deed) for deed in self.deeds])

    def __add__(self, other):
        if not isinstance(other, (Program, Deed)):
            raise BadProgram("other")
        row = self.deeds + ((other,) if isinstance(other, Deed) else other.deeds)
        return Program(*row)

    def __or__(self, other):
        if not isinstance(other, (Program, Deed)):
            raise BadProgram("other")
        return Program(Choose(self, Program(other) if isinstance(other, Deed) else other))

    def __mul__(self, many):
        if not is_whole(many) or many < 0:
            raise BadNumber(many)
        # More than the most deeds is refused in any case: a very great row is not made.
        if many > MOST_DEEDS:
            many = MOST_DEEDS + 1
        row = self.deeds * many
        return Program(*row)

    def walk(self):
        """Yields the paths of all deeds, ascending."""
        for at, deed in enumerate(self.deeds):
            yield (at,)
            for side, block in enumerate(deed.blocks()):
                for path in block.walk():
                    yield (at, side, *path)

    def deed_at(self, path):
        """The deed that a path leads to."""
        deed = deed_on(path, self)
        if deed is None:
            raise NoPlace(path)
        return deed

    def without(self, path):
        """The program without the deed that a path leads to."""
        self.deed_at(path)
        return _changed(self, path, ())

    def with_deed(self, path, deed):
        """The program with another deed in the place that a path leads to."""
        self.deed_at(path)
        if not isinstance(deed, Deed):
            raise BadDeed(None)
        return _changed(self, path, (deed,))

    def renamed(self, names):
        """The program with other names, by a dict from names to names."""
        if not is_renaming(names):
            raise BadProgram("names")
        old = ascending([name for kind, name in self.used_names])
        if len(set([names.get(name, name) for name in old])) < len(old):
            raise BadProgram("names")
        row = [_with_parts(deed, names, [block.renamed(names) for block in deed.blocks()]) for deed in self.deeds]
        return Program(*row)

    def least_sizes(self):
        """A dict from the cells to the least size that they must have."""
        sizes = {cell: LEAST_SIZE for cell in self.cells}
        for cell, value in self.used_values:
            if value >= sizes[cell]:
                sizes[cell] = value + 1
        return sizes


def _check_value(value):
    if not is_index(value, MOST_VALUE + 1):
        raise BadNumber(value)


def _block_of(value):
    if not isinstance(value, Program):
        raise BadProgram("block")
    return value


def _other_of(value):
    if value is None:
        return Program()
    if not isinstance(value, Program):
        raise BadProgram("other")
    return value


def _changed(program, path, deeds):
    """The program with these deeds in the place of the one that a path leads to."""
    at = path[0]
    if len(path) > 1:
        deed = program.deeds[at]
        blocks = list(deed.blocks())
        blocks[path[1]] = _changed(blocks[path[1]], path[2:], deeds)
        deeds = (_with_parts(deed, {}, blocks),)
    row = program.deeds[:at] + deeds + program.deeds[at + 1:]
    return Program(*row)


def _with_parts(deed, names, blocks):
    """The deed with names exchanged by a dict, and with these blocks if it has any."""
    return _made(deed.WORD, renamed_fields(deed, names) + blocks)


def program_from(tree):
    """The Program of a tuple that grammar tells."""
    row = [_deed_from(part) for part in tree]
    return Program(*row)


def _deed_from(tree):
    return _made(tree[0], [program_from(part) if isinstance(part, tuple) else part for part in tree[1:]])


def _made(word, fields):
    """The deed of the class with this WORD."""
    if word == Put.WORD:
        return Put(*fields)
    if word == Copy.WORD:
        return Copy(*fields)
    if word == Say.WORD:
        return Say(*fields)
    if word == Fail.WORD:
        return Fail(*fields)
    if word == If.WORD:
        return If(*fields)
    if word == Catch.WORD:
        return Catch(*fields)
    if word == Choose.WORD:
        return Choose(*fields)
    return Leave() if word == Leave.WORD else Stop()
