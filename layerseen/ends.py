"""Ends: what is seen of the branches of a run."""

from layerseen.values import Paper, copied


class End(Paper):
    """What is seen of a branch that ended: its failure or None, the cells and the logs."""

    def __init__(self, failed, cells, logs):
        self.failed = copied(failed)
        self.cells = copied(cells)
        self.logs = copied(logs)

    def __eq__(self, other):
        return (
            isinstance(other, End) and self.failed == other.failed
            and self.cells == other.cells and self.logs == other.logs
        )

    def __str__(self):
        return " ; ".join(_texts_of(self))

    def contents(self):
        return (self.failed, self.cells, self.logs)

    def anew(self):
        return End(self.failed, self.cells, self.logs)


def ends_text(ends):
    """The texts of a tuple of Ends."""
    return " / ".join([str(end) for end in ends]) or "-"


def _texts_of(end):
    head = "done" if end.failed is None else f"failed {end.failed}"
    cells = [f"{name} {end.cells[name]}" for name in sorted(end.cells, key=str)]
    logs = [f"{name} {_log_text(end.logs[name])}" for name in sorted(end.logs, key=str)]
    return [head, *cells, *logs]


def _log_text(words):
    return " ".join(words) or "-"
