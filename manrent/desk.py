"""The desk: takes orders as texts, and answers in texts."""

from manrent.dues import keeps
from manrent.errors import NoText
from manrent.page import read_row, shown_row
from manrent.quarrels import side
from manrent.roll import Roll
from manrent.written import read_words, shown


class Desk:
    """A roll, and the orders about it."""

    def __init__(self, acres, bears):
        self.roll = Roll(acres, bears)

    def order(self, text):
        """Carry an order out, and tell its answer."""
        words = text.split(" ")
        if words[0] not in ORDERS:
            raise NoText("no order begins so")
        deed = ORDERS[words[0]]
        return deed(self.roll, words[1:])


# Each order reads all its words ahead of doing anything, as an ill-written
# order is refused for that first.


def do_enter(roll, words):
    """ROW: its number."""
    return str(roll.enter(read_row(" ".join(words))))


def do_strike(roll, words):
    """N: the row that was struck."""
    number = read_words(("number",), words)[0]
    return shown_row(roll.strike(number))


def do_correct(roll, words):
    """N ROW: the row that stood there."""
    number = read_words(("number",), words[:1])[0]
    row = read_row(" ".join(words[1:]))
    return shown_row(roll.correct(number, row))


def do_back(roll, words):
    """The last deed is taken back."""
    read_words((), words)
    roll.back()
    return "done"


def do_again(roll, words):
    """What was taken back last is done again."""
    read_words((), words)
    roll.again()
    return "done"


def tell_charter(roll, words):
    """N: the word of the verdict on its row."""
    number = read_words(("number",), words)[0]
    return roll.charter(number)


def tell_chain(roll, words):
    """DAY ESTATE: the estates of its chain."""
    day, estate = read_words(("day", "name or crown"), words)
    return shown(roll.court().land(day).chain(estate))


def tell_kept(roll, words):
    """MAN START END: the fraction that he keeps."""
    man, start, end = read_words(("name or crown", "edge", "edge"), words)
    if start > end:
        raise NoText("the stretch ends ahead of its start")
    top, bottom = keeps(roll.court(), man, start, end)
    return f"{top}/{bottom}"


def tell_side(roll, words):
    """DAY ONE OTHER MAN: the man's side."""
    day, one, other, man = read_words(("day", "name or crown", "name or crown", "name or crown"), words)
    return side(roll.court(), day, one, other, man)


ORDERS = {
    "enter": do_enter,
    "strike": do_strike,
    "correct": do_correct,
    "back": do_back,
    "again": do_again,
    "charter": tell_charter,
    "chain": tell_chain,
    "kept": tell_kept,
    "side": tell_side,
}
