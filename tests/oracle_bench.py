"""Which word cannot stand in texts of ends and benches, and in lines: a second reader, word by word."""

from layerseen.errors import LayerError
from layerseen.programs import Program
from layerseen.stacks import Stack
from tests.oracle_text import is_word, program_fault, stack_fault, stands

NAMES = {
    "drop": 1, "slim": 1, "play": 1, "alike": 2, "where": 2, "put": 1, "fit": 1, "glue": 1, "stack": 0, "compare": 0, "wish": 0,
    "near": 0, "exchange": 0, "undo": 0, "show": 0, "class": 0,
}


def ends_fault(text):
    """The index of the first word that cannot stand, or the number of words; None if all is right."""
    if not isinstance(text, str):
        return 0
    words = text.split(" ")
    if words[0] == "-":
        return 1 if len(words) > 1 else None
    coming, cells, logs, name = "END", [], [], None
    for at, word in enumerate(words):
        if coming == "END" and word in ["done", "failed"]:
            cells, logs = [], []
            coming = "SIGN" if word == "done" else "FAILURE"
        elif coming == "FAILURE" and stands("NAME", word):
            coming = "SIGN"
        elif coming in ["SIGN", "WORDS"] and word in [";", "/"]:
            coming = "THING" if word == ";" else "END"
        elif coming == "THING" and stands("NAME", word) and word not in cells and all(word > log for log in logs):
            coming, name = "WORTH", word
        elif coming == "WORTH" and word in ["0", "1", "2", "3"] and not logs and all(name > cell for cell in cells):
            coming = "SIGN"
            cells.append(name)
        elif coming == "WORTH" and (word == "-" or is_word(word)):
            coming = "SIGN" if word == "-" else "WORDS"
            logs.append(name)
        elif coming != "WORDS" or not is_word(word):
            return at
    return None if coming in ["SIGN", "WORDS"] else len(words)


def bench_fault(text):
    """The row and the index of the word that cannot stand; None if the text is that of a bench."""
    if not isinstance(text, str):
        return 0, 0
    rows = text.split("\n")
    fault = stack_fault(rows[0])
    if fault is not None:
        return 0, fault
    try:
        stack = Stack.read(rows[0])
    except LayerError:
        return 0, 0
    names = []
    for at, row in enumerate(rows):
        if at > 0:
            words = row.split(" ")
            if not stands("NAME", words[0]) or any(words[0] <= name for name in names):
                return at, 0
            if words[1:2] != [":"]:
                return at, 1
            fault = program_fault(" ".join(words[2:])) if len(words) > 2 else 0
            if fault is not None:
                return at, fault + 2
            try:
                stack.check(Program.read(" ".join(words[2:])))
            except LayerError:
                return at, 0
            if at > 12:
                return at, 0
            names.append(words[0])
    return None


def wishes_fault(words):
    """The same for the words of wishes."""
    for at, word in enumerate(words):
        place = at % 4
        if place in [0, 2] and not (stands("NAME", word) or word == "choice"):
            return at
        if place == 1 and word != "in" or place == 3 and word != "and" or place == 2 and word == words[at - 2]:
            return at
    return None if len(words) % 4 == 3 else len(words)


def line_fault(line):
    """The same for a line of a desk."""
    if not isinstance(line, str):
        return 0
    words = line.split(" ")
    if words[0] not in NAMES:
        return 0
    many = NAMES[words[0]] + 1
    for at in range(1, many):
        if at == len(words) or not stands("NAME", words[at]):
            return at
    fault = rest_fault(words[0], words[many:])
    return None if fault is None else many + fault


def rest_fault(head, rest):
    """The same for the words behind the names that a line must have."""
    if head == "glue":
        bad = [at for at, word in enumerate(rest) if not stands("NAME", word)]
        return bad[0] if bad else None
    if head == "exchange":
        if not rest or rest[0] not in list("0123456789"):
            return 0
        return 1 if len(rest) > 1 else None
    if head in ["wish", "near"]:
        return wishes_fault(rest)
    reader = {"stack": stack_fault, "compare": stack_fault, "put": program_fault, "fit": ends_fault}.get(head)
    if reader is None:
        return 0 if rest else None
    return reader(" ".join(rest)) if rest else 0
