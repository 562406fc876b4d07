"""What is seen of a program under a stack, and the deeds that are run."""

from layerseen.errors import BadProgram, BadStack, TooMany
from layerseen.machine import Run
from layerseen.programs import Program
from layerseen.stacks import Stack


def ends(program, stack):
    """The tuple of the Ends that are seen of a program under a stack."""
    run = _new_run(program, stack)
    run.play()
    return tuple(run.ends)


def trace(program, stack):
    """Yields the deeds without blocks that are run, in order; a refusal of the run comes behind them."""
    run = _new_run(program, stack)
    refused = _refusal(run)
    yield from run.trail
    if refused is not None:
        raise TooMany(refused[0], refused[1])


def _new_run(program, stack):
    if not isinstance(program, Program):
        raise BadProgram("program")
    if not isinstance(stack, Stack):
        raise BadStack("stack")
    stack.check(program)
    return Run(program, stack)


def _refusal(run):
    """Plays a run; the fields of the TooMany that it raises, None if it raises none."""
    try:
        run.play()
    except TooMany as error:
        return (error.what, error.most)
    return None
