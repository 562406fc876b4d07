"""Ends: what is seen of the branches of a run."""

from layerseen.values import Paper, copied


class End(Paper):
    """What is seen of a branch that ended: its failure or None, the cells and the logs."""

    def __init__(self, failed, cells, logs):
        self.failed = copied(failed)
        self.cells = copied(cells)
        self.logs = copied(logs)

    def __eq__(self, other):
        return (
            isinstance(other, End) and self.failed == other.failed
            and self.cells == other.cells and self.logs == other.logs
        )

    def __str__(self):
        head = "done" if self.failed is None else f"failed {self.failed}"
        return " ; ".join(parts_told(head, self.cells, self.logs))

    def contents(self):
        return (self.failed, self.cells, self.logs)

    def anew(self):
        return End(self.failed, self.cells, self.logs)


def ends_text(ends):
    """The texts of a tuple of Ends."""
    return " / ".join([str(end) for end in ends]) or "-"


def parts_told(head, cells, logs):
    """The parts of the text of an End or an Event: its head, then its cells, then its logs."""
    cell_texts = [f"{name} {cells[name]}" for name in sorted(cells, key=str)]
    log_texts = [f"{name} {_log_text(logs[name])}" for name in sorted(logs, key=str)]
    return [head, *cell_texts, *log_texts]


def _log_text(words):
    return " ".join(words) or "-"
