"""What a desk answers to a line whose words can stand."""

from layerseen.classes import class_index, many_for
from layerseen.compared import compare
from layerseen.ends import ends_text
from layerseen.errors import BadWish, NoChange, NoName, NoPlace, Taken, TooMany, Unfit, Unlike
from layerseen.programs import program_from
from layerseen.stacks import Stack
from layerseen.texts import bench_text
from layerseen.told import Sample, fitting
from layerseen.where import where
from layerseen.wishes import Wishes, nearest, stack_for


def answer_to(bench, parts):
    """Does for a bench what the parts of a line tell, and returns the answer."""
    action = ACTIONS[parts[0]]
    try:
        return action(bench, parts)
    except BadWish:
        return "refused BadWish"
    except NoChange:
        return "refused NoChange"
    except NoName:
        return "refused NoName"
    except NoPlace:
        return "refused NoPlace"
    except Taken:
        return "refused Taken"
    except TooMany:
        return "refused TooMany"
    except Unfit:
        return "refused Unfit"
    except Unlike:
        return "refused Unlike"


def _stack(bench, parts):
    row = parts[1]
    bench.set_stack(Stack(*row))
    return "ok"


def _put(bench, parts):
    bench.put(parts[1], program_from(parts[2]))
    return "ok"


def _drop(bench, parts):
    bench.drop(parts[1])
    return "ok"


def _glue(bench, parts):
    names = parts[2]
    bench.glue(parts[1], *names)
    return "ok"


def _exchange(bench, parts):
    return "seen" if bench.exchange(parts[1]) else "hidden"


def _slim(bench, parts):
    return str(bench.slim(parts[1]))


def _undo(bench, parts):
    return bench.undo()


def _show(bench, parts):
    return bench_text(bench).replace("\n", " / ")


def _play(bench, parts):
    return ends_text(bench.play(parts[1]))


def _alike(bench, parts):
    found = bench.alike(parts[1], parts[2])
    return "alike" if found else f"apart {len(found.events)}"


def _where(bench, parts):
    one = bench[parts[1]]
    found = where(one, bench[parts[2]], bench.stack_now)
    return f"{len(found.stacks)} of {len(found.rows)}"


def _compare(bench, parts):
    row = parts[1]
    found = compare(bench.stack_now, Stack(*row))
    if not found:
        return f"apart {found.program}"
    return " ".join(["same", *[str(place) for place in found.places]])


def _class(bench, parts):
    return f"{class_index(bench.stack_now)} of {many_for(bench.stack_now)}"


def _wish(bench, parts):
    row = parts[1]
    found = stack_for(bench.stack_now, Wishes(*row))
    return str(found) if isinstance(found, Stack) else _ring_text(found)


def _near(bench, parts):
    row = parts[1]
    found = nearest(bench.stack_now, Wishes(*row))
    return f"{found.many} {found.stack}" if found else _ring_text(found)


def _fit(bench, parts):
    sample = Sample(bench[parts[1]], parts[2])
    rows = list(fitting(bench.stack_now, sample))
    return f"{len(rows)} of {many_for(bench.stack_now)}"


def _ring_text(ring):
    return " ".join(["ring", *ring.names])


ACTIONS = {
    "stack": _stack,
    "put": _put,
    "drop": _drop,
    "glue": _glue,
    "exchange": _exchange,
    "slim": _slim,
    "undo": _undo,
    "show": _show,
    "play": _play,
    "alike": _alike,
    "where": _where,
    "compare": _compare,
    "class": _class,
    "wish": _wish,
    "near": _near,
    "fit": _fit,
}
