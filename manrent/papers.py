"""Streams and sidings that somebody hands in, and whether they show what they should."""

from manrent.bonds import great
from manrent.quarrels import breaks, quarrel


def worth(court, day, one, other, row):
    """What streams are worth, or None where they are not right for the quarrel."""
    between = quarrel(court, day, one, other, [])
    if are_within(between, row) and are_balanced(between, one, other, row):
        return sum([many for giver, taker, many in row if giver == one])
    return None


def shows(court, day, one, other, siding, row):
    """True where it is a siding of the quarrel, and the streams are right and worth just what it weighs."""
    found = worth(court, day, one, other, row)
    return is_siding(court.land(day).folk(), one, other, siding) and found == weighs(court, day, siding)


def are_within(between, row):
    """True where between any two goes at least 1, one way alone, and no more than their bonds bear."""
    for giver, taker, many in row:
        # Whoever isn't of the folk, or gives to himself, has no bonds there.
        if many < 1 or many > between.get(giver, {}).get(taker, 0):
            return False
    return len({(min(giver, taker), max(giver, taker)) for giver, taker, many in row}) == len(row)


def are_balanced(between, one, other, row):
    """True where what goes out of each one comes to him, but all begins at the one and ends at the other."""
    left = {man: 0 for man in between}
    for giver, taker, many in row:
        if taker == one or giver == other:
            return False
        left[giver] -= many
        left[taker] += many
    return all([left[man] == 0 for man in left if man not in (one, other)])


def is_siding(folk, one, other, siding):
    """True where the siding is a sorted list of some of the folk, the one among them and the other one not."""
    return siding == [man for man in folk if man in siding] and one in siding and other not in siding


def weighs(court, day, siding):
    """What a siding weighs."""
    lieges, acres = breaks(court, day, siding)
    return lieges * great(court, day) + acres
