"""The texts of benches and of ends, read."""

from layerseen.bench import Bench
from layerseen.ends import End
from layerseen.errors import BadText, Taken, TooMany, Unfit
from layerseen.grammar import program_tree
from layerseen.programs import program_from
from layerseen.stacks import Stack
from layerseen.words import Words

MOST_VALUE = 3


def read_bench(text):
    """The Bench with just this text."""
    if not isinstance(text, str):
        raise BadText(0, 0)
    rows = text.split("\n")
    bench = Bench(_stack_in(rows[0]))
    last = ""
    for at, row in enumerate(rows):
        if at > 0:
            last = _add_row(bench, at, row, last)
    return bench.twin()


def read_ends(text):
    """The tuple of Ends with just this text."""
    words = Words(text)
    found = next_ends(words)
    words.finish()
    return found


def next_ends(words):
    """The tuple of Ends that the next words tell."""
    if words.sees("-"):
        words.take("-")
        return ()
    row = [_next_end(words)]
    while words.sees("/"):
        words.take("/")
        row.append(_next_end(words))
    return tuple(row)


def _stack_in(row):
    """The Stack that the first row of a bench tells."""
    try:
        return Stack.read(row)
    except (Taken, TooMany):
        raise BadText(0, 0)


def _add_row(bench, at, row, last):
    """Puts the program of a row into a bench, and returns its name, which must be greater than the last one."""
    try:
        words = Words(row)
        name = words.take_name(last)
        words.take(":")
        tree = program_tree(words, 0)
        words.finish()
    except BadText as error:
        raise BadText(at, error.word)
    try:
        bench.put(name, program_from(tree))
    except (TooMany, Unfit):
        raise BadText(at, 0)
    return name


def _next_end(words):
    """The End that the next words tell."""
    failed = words.take_name() if words.take("done", "failed") == "failed" else None
    cells = {}
    logs = {}
    last_cell = ""
    last_log = ""
    while words.sees(";"):
        words.take(";")
        name = words.take_name(last_log, list(cells))
        # Behind a log no cell can stand.
        if not logs and name > last_cell and words.sees_number(0, MOST_VALUE):
            cells[name] = words.take_number(0, MOST_VALUE)
            last_cell = name
        else:
            logs[name] = _next_log(words)
            last_log = name
    return End(failed, cells, logs)


def _next_log(words):
    """The words of a log, at least one; - tells none."""
    if words.sees("-"):
        words.take("-")
        return ()
    row = [words.take_word()]
    while words.sees_word():
        row.append(words.take_word())
    return tuple(row)
