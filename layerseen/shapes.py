"""The shapes of deeds: what they have, in the order of their parameters and of their texts."""

NAMED = ("cell", "log", "failure")
FIELDS = ("cell", "log", "failure", "value", "word", "block")

SHAPES = {
    "put": ("cell", "value"),
    "copy": ("cell", "cell"),
    "say": ("log", "word"),
    "fail": ("failure",),
    "none": (),
    "stop": (),
    "if": ("cell", "=", "value", "block", "else", "block"),
    "catch": ("failure", "block", "else", "block"),
    "choose": ("block", "or", "block"),
}


def fields_of(deed):
    """The pairs of what a field of a deed is and the field, in order."""
    kinds = [shape for shape in SHAPES[deed.WORD] if shape in FIELDS]
    return list(zip(kinds, deed.fields))


def names_in(deeds):
    """The pairs of the kind of a handler and a name that deeds have for such a handler."""
    own = [field for deed in deeds for field in fields_of(deed) if field[0] in NAMED]
    inner = [pair for deed in deeds for block in deed.blocks() for pair in block.used_names]
    return own + inner


def values_in(deeds):
    """The pairs of a cell and a value that is put to it or asked of it."""
    own = [(deed.cell, part) for deed in deeds for kind, part in fields_of(deed) if kind == "value"]
    inner = [pair for deed in deeds for block in deed.blocks() for pair in block.used_values]
    return own + inner


def renamed_fields(deed, names):
    """The fields of a deed but its blocks, the names exchanged by a dict."""
    return [
        names.get(part, part) if kind in NAMED else part
        for kind, part in fields_of(deed) if kind != "block"
    ]
