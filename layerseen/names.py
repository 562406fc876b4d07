"""Names of handlers and words for logs."""

from layerseen.errors import BadName

LETTERS = "abcdefghijklmnopqrstuvwxyz"
LONGEST = 8
KEPT_WORDS = (
    "put", "copy", "if", "else", "say", "fail", "catch", "choose",
    "or", "none", "stop", "skip", "cell", "log", "failure", "choice",
)


def is_word(value):
    """Whether any value is a word for a log."""
    return (
        isinstance(value, str)
        and 1 <= len(value) <= LONGEST
        and all([sign in LETTERS for sign in value])
    )


def is_name(value):
    """Whether any value is a name."""
    return is_word(value) and value not in KEPT_WORDS


def is_handler_name(value):
    """Whether any value is a name that a handler can have; that of the choice is no name otherwise."""
    return is_name(value) or value == "choice"


def check_name(value):
    """Refuses any value that is no name."""
    if not is_name(value):
        raise BadName(value)


def is_renaming(value):
    """Whether any value is a dict from names to names."""
    return isinstance(value, dict) and all([is_name(key) and is_name(value[key]) for key in value])


def fresh(*taken):
    """Yields all names but those taken, the shorter ones first."""
    for value in taken:
        check_name(value)
    for length in range(1, LONGEST + 1):
        for name in _letter_rows(length):
            if name not in KEPT_WORDS and name not in taken:
                yield name


def _letter_rows(length):
    """Yields all rows of so many letters, in Python's order."""
    if length == 0:
        yield ""
        return
    shorter = length - 1
    for head in _letter_rows(shorter):
        for letter in LETTERS:
            yield head + letter
