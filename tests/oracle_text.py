"""Which word of a text cannot stand: a second reader, which keeps a pile of what must come."""

import re

KEPT = "put copy if else say fail catch choose or none stop skip cell log failure choice".split()
WORD = re.compile("[a-z]{1,8}")
DEEDS = {
    "put": "NAME FIGURE", "copy": "NAME NAME", "say": "NAME WORD", "fail": "NAME", "none": "", "stop": "",
    "if": "NAME = FIGURE ( PROGRAM ) else ( PROGRAM )", "catch": "NAME ( PROGRAM ) else ( PROGRAM )",
    "choose": "( PROGRAM ) or ( PROGRAM )",
}


def is_word(word):
    return WORD.fullmatch(word) is not None


def stands(wanted, word):
    if wanted == "NAME":
        return is_word(word) and word not in KEPT
    if wanted == "WORD":
        return is_word(word)
    if wanted == "FIGURE":
        return word in ["0", "1", "2", "3"]
    return word == wanted


def program_fault(text, goal="PROGRAM"):
    """The index of the first word that cannot stand, or the number of words; None if all is right."""
    if not isinstance(text, str):
        return 0
    words = text.split(" ")
    pile = [goal]
    opened = 0
    for at, word in enumerate(words):
        if pile and pile[-1] == "MORE":
            pile.pop()
            if word == ";":
                pile += ["MORE", "DEED"]
                continue
        if not pile:
            return at
        wanted = pile.pop()
        if wanted == "PROGRAM" and word == "skip":
            continue
        if wanted == "PROGRAM":
            pile.append("MORE")
        if wanted in ["PROGRAM", "DEED"]:
            if word not in DEEDS:
                return at
            pile += DEEDS[word].split()[::-1]
            continue
        opened += {"(": 1, ")": -1}.get(wanted, 0)
        if opened > 6 or not stands(wanted, word):
            return at
    return None if not pile or pile == ["MORE"] else len(words)


HANDLERS = {"cell": ["NAME", "SIZE"], "log": ["NAME"], "failure": ["NAME"], "choice": []}


def handler_word_stands(wanted, word):
    if wanted == "SIZE":
        return word in ["2", "3", "4"]
    return stands(wanted, word)


def stack_fault(text):
    """The same for the text of a stack."""
    if not isinstance(text, str):
        return 0
    words = text.split(" ")
    if words[0] == "-":
        return 1 if len(words) > 1 else None
    coming, ended = None, False
    for at, word in enumerate(words):
        if ended:
            return at
        bare = word[:-1] if word.endswith(",") else word
        if coming is None:
            if bare not in HANDLERS:
                return at
            coming = list(HANDLERS[bare])
        elif not handler_word_stands(coming.pop(0), bare):
            return at
        if coming and word != bare:
            return at
        if not coming:
            coming, ended = None, word == bare
    return None if ended else len(words)


def handler_fault(text):
    """The same for the text of one handler."""
    if not isinstance(text, str):
        return 0
    words = text.split(" ")
    if words[0] not in HANDLERS:
        return 0
    coming = HANDLERS[words[0]]
    for at, wanted in enumerate(coming, 1):
        if at == len(words) or not handler_word_stands(wanted, words[at]):
            return at
    return None if len(words) == len(coming) + 1 else len(coming) + 1


def changed_texts(text, vocabulary):
    """Texts that differ from a text in one place: left out, doubled, exchanged, put in, cut off, spaces."""
    words = text.split(" ")
    found = [text, "", text + " ", " " + text, text.replace(" ", "  "), text.upper(), text + "\n", text + "\t"]
    for at in range(len(words)):
        found.append(" ".join(words[:at]))
        found.append(" ".join(words[:at]) + " ")
        found.append(" ".join(words[:at] + words[at + 1:]))
        found.append(" ".join(words[:at] + words[at:at + 1] + words[at:]))
        found.append(" ".join(words[:at] + words[at + 1:at + 2] + words[at:at + 1] + words[at + 2:]))
        found.append(" ".join(words[:at] + [""] + words[at:]))
        found.append(" ".join(words[:at] + [words[at] + ","] + words[at + 1:]))
        for word in vocabulary:
            found.append(" ".join(words[:at] + [word] + words[at:]))
            found.append(" ".join(words[:at] + [word] + words[at + 1:]))
    for word in vocabulary:
        found.append(text + " " + word)
    return found
