"""A bench that is led by lines."""

from layerseen.answers import answer_to
from layerseen.bench import Bench
from layerseen.errors import BadLine, BadText
from layerseen.lines import parts_of


class Desk:
    """A bench, and the lines that lead it."""

    def __init__(self, stack):
        self.bench = Bench(stack)

    def __call__(self, line):
        return self.say(line)

    def say(self, line):
        """Does what a line tells, and returns the answer."""
        return answer_to(self.bench, _checked_parts(line))

    def run(self, *lines):
        """Says the lines in order, or none of them, and returns the list of the answers."""
        bench = self.bench
        with bench.trial():
            answers = [self.say(line) for line in lines]
            done = bench.now
        bench.now = done
        return answers

    def bench_now(self):
        """A twin of the bench."""
        return self.bench.twin()


def _checked_parts(line):
    """The parts of a line, if its words can stand."""
    try:
        return parts_of(line)
    except BadText as error:
        raise BadLine(error.word)
