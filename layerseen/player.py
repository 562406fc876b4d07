"""What is seen of a program under a stack, and the deeds that are run."""

from layerseen.errors import TooMany
from layerseen.seen import deeds_run, seen


def ends(program, stack):
    """The tuple of the Ends that are seen of a program under a stack."""
    return seen(program, stack)


def trace(program, stack):
    """Yields the deeds without blocks that are run, in order; a refusal of the run comes behind them."""
    trail, refused = deeds_run(program, stack)
    yield from trail
    if refused is not None:
        raise TooMany(refused[0], refused[1])
