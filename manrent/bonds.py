"""The bonds between men and their lords on a day, and what they weigh."""


def bonds(court, day):
    """The fours (man, lord, acres, liege) of all who are bound, sorted."""
    ground = court.land(day)
    breadths = {}
    for estate in ground.estates():
        man = ground.holder(estate)
        lord = ground.holder(ground.lord(estate))
        if man != lord:
            breadths[(man, lord)] = breadths.get((man, lord), 0) + ground.breadth(estate)
    return sorted([(man, lord, acres, court.liege(day, man) == lord) for (man, lord), acres in breadths.items()])


def great(court, day):
    """The weight of a liege bond: more than all bonds that aren't liege weigh together."""
    return great_of(bonds(court, day))


def weight(court, day, one, other):
    """What the bonds between two come to, either way; nought of one with himself."""
    return weights(court, day).get(one, {}).get(other, 0)


def great_of(fours):
    """1 and the acres of all bonds that aren't liege, together."""
    return 1 + sum([acres for man, lord, acres, liege in fours if not liege])


def weights(court, day):
    """By each one of the folk: by each one bound with him, either way, what the bonds between them come to."""
    between = {man: {} for man in court.land(day).folk()}
    fours = bonds(court, day)
    of_liege = great_of(fours)
    for man, lord, acres, liege in fours:
        many = of_liege if liege else acres
        between[man][lord] = between[man].get(lord, 0) + many
        between[lord][man] = between[lord].get(man, 0) + many
    return between
