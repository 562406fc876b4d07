"""The texts of benches."""

from layerseen.bench import Bench
from layerseen.errors import BadBook


def bench_text(bench):
    """The text of a bench: a row for its stack, then one for each program."""
    if not isinstance(bench, Bench):
        raise BadBook("bench")
    rows = [f"{name} : {bench[name]}" for name in bench]
    return "\n".join([str(bench.stack_now), *rows])
