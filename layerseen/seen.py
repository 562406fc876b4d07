"""What is seen of a program under a stack, for the modules in which ends is the name of something else."""

from layerseen.ends import End
from layerseen.errors import BadProgram, TooMany
from layerseen.handlers import Cell
from layerseen.machine import Run, first_moment, things_back
from layerseen.orders import check_stack
from layerseen.programs import Program
from layerseen.values import ascending


def seen(program, stack):
    """The tuple of the Ends that are seen."""
    run = _new_run(program, stack)
    return tuple(_played(run))


def deeds_run(program, stack):
    """The deeds without blocks that are run, and the fields of the TooMany that refuses the run, or None."""
    run = _new_run(program, stack)
    refused = None
    try:
        _played(run)
    except TooMany as error:
        refused = (error.what, error.most)
    return (run.trail, refused)


def _new_run(program, stack):
    if not isinstance(program, Program):
        raise BadProgram("program")
    check_stack(stack, "stack")
    stack.check(program)
    return Run(stack, first_moment(program, stack, {}))


def _played(run):
    """The Ends of a whole run."""
    found = []
    while run.advance() in ("ended", "failed"):
        found.append(_end_of(run))
    if run.word == "stopped":
        return [*found, _end_of(run)]
    return [_end_of(run)] if run.word == "broke" else found


def _end_of(run):
    things = run.things()
    if run.failed is not None:
        things = things_back(run.stack, run.failed, things)
    names = ascending(things)
    cells = [name for name in names if isinstance(run.stack.handler(name), Cell)]
    logs = [name for name in names if name not in cells]
    return End(run.failed, {name: things[name] for name in cells}, {name: things[name] for name in logs})
