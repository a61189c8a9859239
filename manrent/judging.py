"""How one charter is judged by what those ahead of it have left, and what it does."""

from manrent.heirs import Kin
from manrent.land import Land

STANDS = "stands"


class Realm:
    """What the charters judged so far have left."""

    def __init__(self, acres):
        self.ground = Land(acres)
        self.kin = Kin()
        # The names of all estates that were ever there.
        self.used = {}
        # By men: the rising list of pairs (day, lord), and the day of death.
        self.lieges = {}
        self.deaths = {}


def judge(realm, row):
    """The word of a charter, which is carried out where it stands."""
    asked = WORDS[row[0]]
    word = asked(realm, row)
    if word == STANDS:
        deed = DEEDS[row[0]]
        deed(realm, row)
    return word


def word_of_new(realm, row):
    """The word of a grant or a part, which begin alike."""
    estate, new, man, acres = row[2:6]
    if not realm.ground.there(estate):
        return "nowhere"
    if new in realm.used:
        return "taken"
    if realm.kin.is_dead(man):
        return "dead"
    if realm.ground.own(estate) < acres:
        return "acres"
    return STANDS


def word_of_convey(realm, row):
    """The word of a convey."""
    estate, man = row[2:]
    if not realm.ground.there(estate):
        return "nowhere"
    if realm.kin.is_dead(man):
        return "dead"
    return STANDS


def word_of_surrender(realm, row):
    """The word of a surrender."""
    if not realm.ground.there(row[2]):
        return "nowhere"
    return STANDS


def word_of_living(realm, row):
    """The word of an heir or a death: only the living name heirs and die."""
    if realm.kin.is_dead(row[2]):
        return "dead"
    return STANDS


def word_of_liege(realm, row):
    """The word of a liege."""
    man, lord = row[2:]
    if realm.kin.is_dead(man):
        return "dead"
    if not is_bound(realm.ground, man, lord):
        return "nobond"
    return STANDS


def is_bound(ground, man, lord):
    """True where the man holds an estate whose lord is an estate held by that lord."""
    for estate in ground.held(man):
        if ground.holder(ground.lord(estate)) == lord:
            return True
    return False


def do_heir(realm, row):
    """The heir is named."""
    realm.kin.name_heir(row[2], row[3])


def do_grant(realm, row):
    """The new estate is there under the estate."""
    estate, new, man, acres, service = row[2:]
    realm.ground.grant(estate, new, man, acres, service)
    realm.used[new] = True


def do_part(realm, row):
    """The new estate is there beside the estate."""
    estate, new, man, acres = row[2:]
    realm.ground.part_off(estate, new, man, acres)
    realm.used[new] = True


def do_convey(realm, row):
    """The man holds the estate."""
    realm.ground.convey(row[2], row[3])


def do_liege(realm, row):
    """The liege lord is chosen; no charter is judged by it."""
    realm.lieges.setdefault(row[2], []).append((row[1], row[3]))


def do_surrender(realm, row):
    """The estate falls back."""
    realm.ground.fall_back(row[2])


def do_death(realm, row):
    """The man is dead: whoever takes holds what he held, or all of it falls back."""
    man = row[2]
    realm.kin.die(man)
    realm.deaths[man] = row[1]
    heir = realm.kin.taker(man)
    for estate in realm.ground.held(man):
        if heir is None:
            realm.ground.fall_back(estate)
        else:
            realm.ground.convey(estate, heir)


WORDS = {
    "heir": word_of_living,
    "grant": word_of_new,
    "part": word_of_new,
    "convey": word_of_convey,
    "liege": word_of_liege,
    "surrender": word_of_surrender,
    "death": word_of_living,
}
DEEDS = {
    "heir": do_heir,
    "grant": do_grant,
    "part": do_part,
    "convey": do_convey,
    "liege": do_liege,
    "surrender": do_surrender,
    "death": do_death,
}
