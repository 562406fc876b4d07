"""Whether a paper shows that two programs are alike, or that they are not."""

from layerseen.errors import TooMany
from layerseen.likeness import Apart, Same, check_programs, things_named
from layerseen.scenes import Scene, all_values, are_values
from layerseen.tables import MOST_TALKS, Table
from layerseen.talks import Event, event_of
from layerseen.values import is_index, same


class Reading:
    """All talks with a program, gone through beside the rows of a table."""

    def __init__(self, scene, rows):
        self.scene = scene
        self.rows = rows
        self.answers = all_values(scene.asked_sizes)
        self.gone_through = 0

    def tells_all(self):
        """Whether the rows tell all talks."""
        for start, pair in zip(all_values(self.scene.sizes), self.rows[-1]):
            if not self._tells(pair, self.scene.begin(start)):
                return False
        return True

    def _tells(self, pair, turn):
        """Whether a pair of an event and a number tells a Turn and all that can follow it."""
        event, number = pair
        if not same(event, event_of(turn)) or (number is None) != (turn.moment is None):
            return False
        if number is None:
            self._end_talk()
            return True
        for answer, behind in zip(self.answers, self.rows[number]):
            if not self._tells(behind, self.scene.go_on(turn.moment, answer)):
                return False
        return True

    def _end_talk(self):
        if self.gone_through == MOST_TALKS:
            raise TooMany("talks", MOST_TALKS)
        self.gone_through = self.gone_through + 1


def shows_alike(one, other, stack, value):
    """Whether any value is a Same or an Apart that tells the talks with one and with other as they go."""
    check_programs(one, other, stack)
    names = things_named(one, other)
    first, second = Scene(one, stack, names), Scene(other, stack, names)
    if isinstance(value, Same):
        return (
            _is_table_about(value.table, first)
            and Reading(first, value.table.rows).tells_all() and Reading(second, value.table.rows).tells_all()
        )
    if isinstance(value, Apart):
        return (
            _is_talk_about(value, first)
            and _goes(first, value, value.events) and _goes(second, value, value.others)
        )
    return False


def _is_table_about(value, scene):
    """Whether any value is a Table about the things of a scene, whatever events it tells."""
    if not isinstance(value, Table):
        return False
    if not same((value.sizes, value.replied, value.logs), (scene.sizes, scene.asked, scene.logs)):
        return False
    return _are_rows(value.rows, len(all_values(scene.sizes)), len(all_values(scene.asked_sizes)))


def _are_rows(value, many_starts, many_answers):
    """Whether any value is a tuple of rows, the last one that of the starts."""
    if not isinstance(value, tuple) or not value:
        return False
    lengths = [many_answers] * (len(value) - 1) + [many_starts]
    return all([
        isinstance(row, tuple) and len(row) == lengths[at] and all([_is_pair(pair, at) for pair in row])
        for at, row in enumerate(value)
    ])


def _is_pair(value, at):
    """Whether any value is a pair of an event and None or the number of a row ahead of that at an index."""
    return (
        isinstance(value, tuple) and len(value) == 2
        and isinstance(value[0], Event) and (value[1] is None or is_index(value[1], at))
    )


def _is_talk_about(paper, scene):
    """Whether an Apart tells a talk about the things of a scene, with events that part at the last ones."""
    if not isinstance(paper.replies, tuple) or not are_values(paper.start, scene.sizes):
        return False
    if not all([are_values(reply, scene.asked_sizes) for reply in paper.replies]):
        return False
    return _part_at_last(paper.events, paper.others, len(paper.replies) + 1)


def _part_at_last(events, others, many):
    """Whether any values are two tuples of so many items, equal but for the last ones."""
    if not isinstance(events, tuple) or not isinstance(others, tuple):
        return False
    if len(events) != many or len(others) != many:
        return False
    return same(events[:-1], others[:-1]) and not same(events[-1], others[-1])


def _goes(scene, paper, events):
    """Whether the talk of an Apart has these events."""
    turn = scene.begin(paper.start)
    for reply, event in zip(paper.replies, events):
        if turn.moment is None or not same(event, event_of(turn)):
            return False
        turn = scene.go_on(turn.moment, reply)
    return same(events[-1], event_of(turn))
