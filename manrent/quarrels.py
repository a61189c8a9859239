"""Whose side each one is on where two of the folk quarrel, and the streams that show it."""

from manrent.bonds import bonds, weights
from manrent.errors import NoMan, NoQuarrel
from manrent.flows import filled, reached


def breaks(court, day, siding):
    """The pair that a siding breaks: the liege bonds' count, and the acres of all others together."""
    lieges = 0
    others = 0
    for man, lord, acres, liege in bonds(court, day):
        if (man in siding) != (lord in siding):
            if liege:
                lieges += 1
            else:
                others += acres
    return (lieges, others)


def near(court, day, one, other):
    """The least siding that has the fewest people."""
    return near_of(quarrel(court, day, one, other, []), one, other)


def far(court, day, one, other):
    """The least siding that has the most people."""
    return far_of(quarrel(court, day, one, other, []), one, other)


def streams(court, day, one, other):
    """Right streams that are worth what a least siding weighs."""
    between = quarrel(court, day, one, other, [])
    room = filled(between, one, other)
    row = []
    for giver, others in between.items():
        for taker, many in others.items():
            if room[giver][taker] < many:
                row.append((giver, taker, many - room[giver][taker]))
    return sorted(row)


def side(court, day, one, other, man):
    """Whether the man is sure of the one, sure of the other, or free."""
    between = quarrel(court, day, one, other, [man])
    if man in near_of(between, one, other):
        return "one"
    if man in far_of(between, one, other):
        return "free"
    return "other"


def held_near(court, day, one, other, man, goes):
    """The near one of the least sidings in which the man goes with the one or with the other, or None."""
    between = quarrel(court, day, one, other, [man])
    head, foe = (one, other) if goes else (other, one)
    if man == foe:
        return None
    if man != head:
        tie(between, head, man)
    return near_of(between, one, other)


def quarrel(court, day, one, other, asked):
    """The web of the folk's bonds, or refused where these two can't quarrel or one asked for isn't there."""
    between = weights(court, day)
    for man in [one, other] + asked:
        if man not in between:
            raise NoMan("somebody isn't of the folk of the day")
    if one == other:
        raise NoQuarrel("nobody quarrels with himself")
    return between


def near_of(between, one, other):
    """The fewest who are with the one: those whom streams that are full to the other leave within reach."""
    return sorted(reached(filled(between, one, other), one))


def far_of(between, one, other):
    """The most who can be with the one: all but the fewest who are with the other."""
    against = near_of(between, other, one)
    return [man for man in sorted(between) if man not in against]


def tie(between, head, man):
    """Bind two by more than all bonds weigh together, so that no least siding parts them."""
    more = 1 + sum([sum(others.values()) for others in between.values()])
    between[head][man] = between[head].get(man, 0) + more
    between[man][head] = between[man].get(head, 0) + more
