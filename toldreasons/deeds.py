"""Deeds and logs as texts, and read again."""

from toldreasons.texts import Reader


def deed_text(deed):
    """The text of a deed: its word, its cell and its value."""
    word, cell, value = deed
    return f"{word} {cell} {value}"


def log_text(deeds):
    """The texts of deeds, one a line; an empty text for none."""
    return "\n".join([deed_text(deed) for deed in deeds])


def _read_one(reader):
    word = reader.take(("strike", "raise", "set"))
    reader.take((" ",))
    cell = reader.number()
    reader.take((" ",))
    return (word, cell, reader.number())


def read_deed(text):
    """The deed that is written in any value; raises BadText where none is."""
    reader = Reader(text)
    deed = _read_one(reader)
    reader.shut()
    return deed


def read_log(text):
    """The deeds that are written in any value, one a line; raises BadText where none are."""
    if text == "":
        return ()
    reader = Reader(text)
    deeds = [_read_one(reader)]
    while not reader.ends():
        reader.take(("\n",))
        deeds.append(_read_one(reader))
    return tuple(deeds)
