"""What is due over a stretch of days: from start on, and before end."""

from manrent.parts import minus, part, plus, scaled, total


def owed(court, estate, start, end):
    """What is given for an estate, nought where it isn't there."""
    return come_to([given for given in services(court, start, end) if given[0] == estate])


def gets(court, man, start, end):
    """What is given to a man."""
    return come_to([given for given in services(court, start, end) if given[2] == man])


def gives(court, man, start, end):
    """What a man gives."""
    return come_to([given for given in services(court, start, end) if given[1] == man])


def bears(court, man, start, end):
    """What the own acres of a man's estates bear."""
    acres = 0
    for ground, days in spans(court, start, end):
        for estate in ground.held(man):
            acres += ground.own(estate) * days
    return part(acres * court.bears(), 1)


def keeps(court, man, start, end):
    """What a man's own acres bear and what he gets, less what he gives."""
    comes_in = plus(bears(court, man, start, end), gets(court, man, start, end))
    return minus(comes_in, gives(court, man, start, end))


def passes(court, start, end):
    """The triples (giver, taker, fraction) of all between whom more than nought passes, sorted."""
    between = {}
    for given in services(court, start, end):
        between.setdefault(given[1:3], []).append(given)
    triples = [(giver, taker, come_to(row)) for (giver, taker), row in between.items()]
    return sorted([triple for triple in triples if triple[2] != (0, 1)])


def services(court, start, end):
    """The rows (estate, giver, taker, service, days) of what is given for each estate in each spell."""
    row = []
    for ground, days in spans(court, start, end):
        for estate in ground.estates():
            taker = ground.holder(ground.lord(estate))
            row.append((estate, ground.holder(estate), taker, ground.service(estate), days))
    return row


def come_to(row):
    """What the services of such rows come to together."""
    return total([scaled(service, days) for estate, giver, taker, service, days in row])


def spans(court, start, end):
    """The pairs (land, days) of the spells that the stretch meets, with the days of each within it."""
    row = []
    for first, behind in court.spells():
        last = end if behind is None else min(end, behind)
        days = last - max(start, first)
        if days > 0:
            row.append((court.land(first), days))
    return row
