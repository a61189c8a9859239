"""Rows and rolls as texts."""

from manrent.charters import FORMS, is_well_made
from manrent.errors import NoText
from manrent.roll import roll_of
from manrent.written import piece_of, pieces_of, shown

# The rows with which a page begins, each with what stands behind its word.
HEADS = (("land", ("acres", "bears")), ("free", ("entry",)))


def shown_row(row):
    """A row as it is written."""
    return shown(row)


def read_row(text):
    """The row that a text writes, else refused."""
    row = row_of(text)
    if row is None:
        raise NoText("the text writes no well-made row")
    return row


def shown_page(roll):
    """The page of a roll."""
    lines = [f"land {roll.acres()} {roll.bears()}", f"free {roll.free()}"]
    lines += [f"{number} {shown_row(row)}" for number, row in roll.rows()]
    return "".join([line + "\n" for line in lines])


def read_page(text):
    """The roll that a page tells of, else refused with the number of its first wrong row."""
    lines = text.split("\n")
    # Behind the last line end there is nothing, or a row that lacks its own.
    tail = lines.pop()
    acres, bears, free = read_heads(lines)
    held = {}
    last = 0
    for at, line in enumerate(lines[len(HEADS):], start=len(HEADS) + 1):
        number, row = entry_of(line)
        if number is None or row is None or number <= last or number >= free or row in list(held.values()):
            raise NoText("the row of the page is wrong", at)
        held[number] = row
        last = number
    if tail != "":
        raise NoText("the last row lacks its line end", len(lines) + 1)
    return roll_of(acres, bears, free, held)


def row_of(text):
    """The row that a text writes, or None where it writes no well-made one."""
    words = text.split(" ")
    if words[0] not in FORMS:
        return None
    pieces = pieces_of(FORMS[words[0]], words[1:])
    if pieces is None:
        return None
    row = tuple(words[:1] + pieces)
    return row if is_well_made(row) else None


def read_heads(lines):
    """What the rows with which a page begins tell, else refused."""
    told = []
    for at, (word, form) in enumerate(HEADS, start=1):
        if len(lines) < at:
            raise NoText("the page has too few rows", at)
        words = lines[at - 1].split(" ")
        pieces = pieces_of(form, words[1:])
        if words[0] != word or pieces is None:
            raise NoText("the page doesn't begin so", at)
        told += pieces
    return told


def entry_of(line):
    """The number and the row that a row of a page writes, each None where it isn't well written."""
    word, blank, text = line.partition(" ")
    return (piece_of("entry", word), row_of(text))
