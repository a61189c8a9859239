"""Names and numbers as they are written, one blank between."""

from manrent.charters import BOUNDS, CROWN, fits, is_name
from manrent.errors import NoText

CROWN_SIGN = "-"

MOST_FIGURES = 6


def shown(pieces):
    """Names and numbers as they are written."""
    return " ".join([CROWN_SIGN if piece == CROWN else str(piece) for piece in pieces])


def read_words(form, words):
    """The names and numbers that words write by the sorts of a form, else refused."""
    pieces = pieces_of(form, words)
    if pieces is None:
        raise NoText("the words don't write what they should")
    return pieces


def pieces_of(form, words):
    """The names and numbers that words write by the sorts of a form, or None where they don't."""
    if len(words) != len(form):
        return None
    pieces = [piece_of(sort, word) for sort, word in zip(form, words)]
    return None if None in pieces else pieces


def piece_of(sort, word):
    """The name or number of a sort that a word writes, or None where it doesn't."""
    piece = number_of(word) if sort in BOUNDS else name_of(word)
    if piece is None or not fits(sort, piece):
        return None
    return piece


def number_of(word):
    """The number that a word writes, or None where it writes none."""
    for sign in word:
        if sign < "0" or sign > "9":
            return None
    if len(word) < 1 or len(word) > MOST_FIGURES:
        return None
    if word[0] == "0" and len(word) > 1:
        return None
    return int(word)


def name_of(word):
    """The name or the crown that a word writes, or None where it writes neither."""
    if word == CROWN_SIGN:
        return CROWN
    return word if is_name(word) else None
