"""Which stack was it: classes told back from what was seen."""

from layerseen.classes import all_classes
from layerseen.compared import parting_of
from layerseen.ends import End, ends_text
from layerseen.errors import BadProgram, BadSample, TooMany, Unfit
from layerseen.orders import check_stack
from layerseen.programs import Program
from layerseen.seen import seen
from layerseen.values import Paper, ascending, copied, same

MOST_CLASSES = 1000
MOST_PROGRAMS = 12


class Sample(Paper):
    """That a program gave these ends under a stack that is not known."""

    def __init__(self, program, ends):
        if not isinstance(program, Program):
            raise BadProgram("program")
        if not isinstance(ends, (list, tuple)):
            raise BadSample(None)
        for at, end in enumerate(ends):
            if not isinstance(end, End):
                raise BadSample(at)
        self.program = program
        self.ends = tuple(copied(ends))

    @classmethod
    def of(cls, program, stack):
        """The Sample that a stack gives."""
        return Sample(program, seen(program, stack))

    def __eq__(self, other):
        return isinstance(other, Sample) and self.program == other.program and self.ends == other.ends

    def contents(self):
        return (self.program, self.ends)

    def anew(self):
        return Sample(self.program, self.ends)

    def fits(self, stack):
        """Whether a stack gives just these ends."""
        return same(seen(self.program, stack), self.ends)


class Told(Paper):
    """A normal stack, and the samples that told it back."""

    def __init__(self, stack, samples):
        self.stack = copied(stack)
        self.samples = copied(samples)

    def __eq__(self, other):
        return isinstance(other, Told) and self.stack == other.stack and self.samples == other.samples

    def contents(self):
        return (self.stack, self.samples)

    def anew(self):
        return Told(self.stack, self.samples)


def fitting(stack, *samples):
    """Yields the normal stacks that all samples fit, in the order of the classes."""
    yield from _fitting_rows(stack, samples)


def sure(stack, *samples):
    """The ascending pairs that stand so in all normal stacks that the samples fit; None if none fits."""
    rows = _fitting_rows(stack, samples)
    if not rows:
        return None
    return tuple([pair for pair in rows[0].pairs if all([pair in row.pairs for row in rows])])


def parts(stack, *programs):
    """The groups of indexes of the classes that the ends of the programs do not tell apart."""
    rows = _all_classes(stack)
    _check_all(programs)
    return _groups(_labels(stack, rows, programs), len(rows))


def fewest(stack, *programs):
    """The least indexes of as few programs as any that tell the same classes apart as all of them."""
    rows = _all_classes(stack)
    _check_all(programs)
    if len(programs) > MOST_PROGRAMS:
        raise TooMany("programs", MOST_PROGRAMS)
    labels = _labels(stack, rows, programs)
    # One class of each group is enough: those are to be told apart.
    firsts = [group[0] for group in _groups(labels, len(rows))]
    columns = [[column[at] for at in firsts] for column in labels]
    telling = [
        some for some in _choices(len(programs))
        if len(_groups([columns[at] for at in some], len(firsts))) == len(firsts)
    ]
    return telling[0]


def told_back(stack, ask):
    """The Told of the class of an unknown stack of the handlers; ask tells its ends of a program."""
    rows = _all_classes(stack)
    samples = []
    while len(rows) > 1:
        one, other = _next_pair(rows)
        program = parting_of(stack.handler(one), stack.handler(other))
        answer = ask(program)
        if not isinstance(answer, (list, tuple)) or not all([isinstance(end, End) for end in answer]):
            raise BadSample(len(samples))
        sample = Sample(program, answer)
        rows = [row for row in rows if sample.fits(row)]
        if not rows:
            raise BadSample(len(samples))
        samples.append(sample)
    return Told(rows[0], tuple(samples))


def shows_told(stack, value):
    """Whether any value is a Told of the one normal stack that all its samples fit."""
    rows = _all_classes(stack)
    if not isinstance(value, Told) or not isinstance(value.samples, tuple):
        return False
    if not all([isinstance(sample, Sample) for sample in value.samples]):
        return False
    try:
        found = _fitting_of(stack, rows, value.samples)
    except (Unfit, TooMany):
        return False
    return found == [value.stack]


def _all_classes(stack):
    """The normal stacks of all classes, if they are not too many."""
    check_stack(stack, "stack")
    return all_classes(stack, MOST_CLASSES)


def _fitting_rows(stack, samples):
    rows = _all_classes(stack)
    for at, sample in enumerate(samples):
        if not isinstance(sample, Sample):
            raise BadSample(at)
    return _fitting_of(stack, rows, samples)


def _fitting_of(stack, rows, samples):
    """The rows that all samples fit; each sample is run under each row, whatever the others fit."""
    for sample in samples:
        stack.check(sample.program)
    fits = [[sample.fits(row) for row in rows] for sample in samples]
    return [row for at, row in enumerate(rows) if all([column[at] for column in fits])]


def _check_all(programs):
    for at, program in enumerate(programs):
        if not isinstance(program, Program):
            raise BadProgram(at)


def _labels(stack, rows, programs):
    """For each program the texts of its ends under the rows."""
    for program in programs:
        stack.check(program)
    return [[ends_text(seen(program, row)) for row in rows] for program in programs]


def _groups(labels, many):
    """The tuples of the indexes that no labels tell apart, by their first ones."""
    found = {}
    for index in range(many):
        found.setdefault(tuple([column[index] for column in labels]), []).append(index)
    return tuple([tuple(found[key]) for key in found])


def _choices(many):
    """The ascending tuples of indexes below many, the shorter ones first, in order."""
    found = [()]
    longest = [()]
    for _ in range(many):
        longest = [(*some, at) for some in longest for at in range(some[-1] + 1 if some else 0, many)]
        found = found + longest
    return found


def _next_pair(rows):
    """The ascending pair of names whose order parts the rows best, the first such one."""
    names = ascending(rows[0].names)
    best = None
    least = len(rows)
    for at, name in enumerate(names):
        for other in names[at + 1:]:
            outside = len([row for row in rows if (name, other) in row.pairs])
            greater = max(int(outside), len(rows) - outside)
            # Those that do not interact, or stand so in all rows, part nothing.
            if greater < least:
                best = (name, other)
                least = greater
    return best
