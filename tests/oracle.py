"""A slow and plain telling of the land, the charters, the dues and the quarrels, to hold the program against."""

from fractions import Fraction
from itertools import combinations

KINDS = ["heir", "grant", "part", "convey", "liege", "surrender", "death"]


def pair(fraction):
    return (fraction.numerator, fraction.denominator)


class SlowLand:
    """Estates by names, each a dict; whatever can be reckoned is reckoned anew."""

    def __init__(self, acres):
        self.all = {"": {"lord": None, "holder": "", "own": acres, "service": Fraction(0)}}

    def under(self, name):
        return sorted(other for other, estate in self.all.items() if estate["lord"] == name)

    def breadth(self, name):
        return self.all[name]["own"] + sum(self.breadth(other) for other in self.under(name))

    def chain(self, name):
        lord = self.all[name]["lord"]
        return [name] + ([] if lord is None else self.chain(lord))

    def held(self, man):
        return sorted(name for name, estate in self.all.items() if estate["holder"] == man)

    def grant(self, estate, new, man, acres, service):
        self.all[estate]["own"] -= acres
        self.all[new] = {"lord": estate, "holder": man, "own": acres, "service": Fraction(service)}

    def part_off(self, estate, new, man, acres):
        old = self.all[estate]
        going = old["service"] * Fraction(acres, self.breadth(estate))
        old["own"] -= acres
        old["service"] -= going
        self.all[new] = {"lord": old["lord"], "holder": man, "own": acres, "service": going}

    def convey(self, estate, man):
        self.all[estate]["holder"] = man

    def fall_back(self, estate):
        gone = self.all.pop(estate)
        self.all[gone["lord"]]["own"] += gone["own"]
        for other in self.all.values():
            if other["lord"] == estate:
                other["lord"] = gone["lord"]

    def picture(self):
        return {name: (estate["holder"], estate["lord"], estate["own"], self.breadth(name),
                       pair(estate["service"]), self.chain(name), self.under(name))
                for name, estate in self.all.items()}

    def plain(self):
        return {name: tuple(estate.values()) for name, estate in self.all.items()}


def picture(land):
    """All that a Land tells of each of its estates."""
    return {name: (land.holder(name), land.lord(name), land.own(name), land.breadth(name),
                   land.service(name), land.chain(name), land.under(name))
            for name in [""] + land.estates()}


class SlowCourt:
    """Judges all charters up to a day, from the beginning, at each asking."""

    def __init__(self, acres, rows, day=9999):
        self.land = SlowLand(acres)
        self.names, self.heirs, self.dead, self.lieges, self.told = set(), {}, set(), {}, []
        for row in sorted(rows, key=lambda row: (row[1], KINDS.index(row[0]), row)):
            if row[1] <= day:
                word = self.word(row)
                if word == "stands":
                    getattr(self, "do_" + row[0])(*row[2:])
                self.told.append((row, word))

    def word(self, row):
        return next((word for due, word in getattr(self, "ask_" + row[0])(*row[2:]) if due), "stands")

    def ask_grant(self, estate, new, man, acres, service=0):
        return [(estate not in self.land.all, "nowhere"), (new in self.names, "taken"), (man in self.dead, "dead"),
                (acres > self.land.all.get(estate, {"own": 0})["own"], "acres")]

    ask_part = ask_grant

    def ask_convey(self, estate, man):
        return [(estate not in self.land.all, "nowhere"), (man in self.dead, "dead")]

    def ask_surrender(self, estate):
        return [(estate not in self.land.all, "nowhere")]

    def ask_heir(self, man, heir):
        return [(man in self.dead, "dead")]

    def ask_death(self, man):
        return [(man in self.dead, "dead")]

    def ask_liege(self, man, lord):
        lords = [self.land.all[self.land.all[name]["lord"]]["holder"] for name in self.land.held(man)]
        return [(man in self.dead, "dead"), (lord not in lords, "nobond")]

    def do_grant(self, estate, new, man, acres, service):
        self.names.add(new)
        self.land.grant(estate, new, man, acres, service)

    def do_part(self, estate, new, man, acres):
        self.names.add(new)
        self.land.part_off(estate, new, man, acres)

    def do_convey(self, estate, man):
        self.land.convey(estate, man)

    def do_surrender(self, estate):
        self.land.fall_back(estate)

    def do_heir(self, man, heir):
        self.heirs[man] = heir

    def do_liege(self, man, lord):
        self.lieges[man] = lord

    def do_death(self, man):
        self.dead.add(man)
        taker = self.taker(man)
        for estate in self.land.held(man):
            if taker is None:
                self.land.fall_back(estate)
            else:
                self.land.convey(estate, taker)

    def taker(self, man):
        line = [man]
        while line[-1] in self.heirs:
            line.append(self.heirs[line[-1]])
            if line[-1] in line[:-1]:
                return None
            if line[-1] not in self.dead:
                return line[-1]
        return None


def slow_spells(acres, rows):
    """The spells, told by the lands of all days that a charter has and of those beside them."""
    days = sorted({0} | {row[1] for row in rows})
    firsts = [0]
    for day in days[1:]:
        if SlowCourt(acres, rows, day).land.plain() != SlowCourt(acres, rows, day - 1).land.plain():
            firsts.append(day)
    return list(zip(firsts, firsts[1:] + [None]))


class Dice:
    """Numbers that look thrown and are the same at each run."""

    def __init__(self, seed):
        self.state = seed * 7919 + 12345

    def below(self, bound):
        self.state = (self.state * 6364136223846793005 + 1442695040888963407) % 2 ** 64
        return (self.state >> 33) % bound

    def of(self, things):
        return things[self.below(len(things))]


def some_rows(dice, many, estates, men, last_day):
    """Well-made rows, no two equal, many of which stand."""
    rows = {}
    while len(rows) < many:
        kind, day = dice.of(KINDS + ["grant"] * 3 + ["part"] * 2 + ["convey"]), dice.below(last_day + 1)
        man, other, estate, new = dice.of(men), dice.of(men), dice.of(estates), dice.of(estates)
        crowned = dice.below(3) == 0
        row = {
            "heir": ("heir", day, man, other),
            "grant": ("grant", day, "" if crowned else estate, new, man, 1 + dice.below(12), dice.below(9)),
            "part": ("part", day, estate, new, man, 1 + dice.below(6)),
            "convey": ("convey", day, estate, man),
            "liege": ("liege", day, man, "" if crowned else other),
            "surrender": ("surrender", day, estate),
            "death": ("death", day, man),
        }[kind]
        if kind not in ("heir", "liege") or row[2] != row[3]:
            rows[row] = True
    return list(rows)


class SlowDays:
    """What is due, day by day, each day's land judged from the beginning."""

    def __init__(self, acres, coins, rows, last):
        self.coins = coins
        self.lands = [SlowCourt(acres, rows, day).land.all for day in range(last + 1)]

    def given(self, start, end):
        """What is given for each estate on each day: (estate, giver, taker, service)."""
        return [(name, estate["holder"], land[estate["lord"]]["holder"], estate["service"])
                for land in self.lands[start:end] for name, estate in land.items() if name != ""]

    def owed(self, estate, start, end):
        return sum((row[3] for row in self.given(start, end) if row[0] == estate), Fraction(0))

    def gives(self, man, start, end):
        return sum((row[3] for row in self.given(start, end) if row[1] == man), Fraction(0))

    def gets(self, man, start, end):
        return sum((row[3] for row in self.given(start, end) if row[2] == man), Fraction(0))

    def bears(self, man, start, end):
        return Fraction(sum(estate["own"] * self.coins for land in self.lands[start:end] for estate in land.values()
                            if estate["holder"] == man))

    def keeps(self, man, start, end):
        return self.bears(man, start, end) + self.gets(man, start, end) - self.gives(man, start, end)

    def passes(self, start, end):
        sums = {}
        for name, giver, taker, service in self.given(start, end):
            sums[giver, taker] = sums.get((giver, taker), 0) + service
        return sorted((giver, taker, pair(many)) for (giver, taker), many in sums.items() if many > 0)


class SlowQuarrels:
    """The bonds of a day, and the sidings gone through one by one."""

    def __init__(self, acres, rows, day):
        court = SlowCourt(acres, rows, day)
        land = court.land
        self.folk = sorted({""} | {estate["holder"] for estate in land.all.values()})
        self.bonds = []
        for man in self.folk:
            for lord in self.folk:
                # An estate may have no acres: all were parted off.
                many = [land.breadth(name) for name, estate in land.all.items() if name != ""
                        and estate["holder"] == man != lord == land.all[estate["lord"]]["holder"]]
                if many:
                    self.bonds.append((man, lord, sum(many), court.lieges.get(man) == lord))
        self.great = 1 + sum(bond[2] for bond in self.bonds if not bond[3])

    def weight(self, one, other):
        return sum(self.great if bond[3] else bond[2] for bond in self.bonds if {one, other} == set(bond[:2]))

    def breaks(self, siding):
        broken = [bond for bond in self.bonds if (bond[0] in siding) ^ (bond[1] in siding)]
        return (sum(1 for bond in broken if bond[3]), sum(bond[2] for bond in broken if not bond[3]))

    def weighs(self, siding):
        lieges, acres = self.breaks(siding)
        return lieges * self.great + acres

    def sidings(self, one, other):
        rest = [man for man in self.folk if man not in (one, other)]
        return [sorted([one] + list(some)) for many in range(len(rest) + 1) for some in combinations(rest, many)]

    def least(self, one, other, man=None, goes=None):
        """The least sidings, of those where the man goes as told, the fewest people first."""
        row = [siding for siding in self.sidings(one, other) if man is None or (man in siding) == goes]
        fewest = min((self.breaks(siding) for siding in row), default=None)
        return [siding for siding in row if self.breaks(siding) == fewest]

    def wrongs(self, row, one, other):
        """The words of point 13 that streams go against."""
        goes_out = {man: sum(many for giver, taker, many in row if giver == man) for man in self.folk}
        comes = {man: sum(many for giver, taker, many in row if taker == man) for man in self.folk}
        pairs = [frozenset(triple[:2]) for triple in row]
        found = {
            "at least 1": all(triple[2] >= 1 for triple in row),
            "of the folk": all(man in self.folk for triple in row for man in triple[:2]),
            "to another one": all(triple[0] != triple[1] for triple in row),
            "one triple between two": len(pairs) == len(set(pairs)),
            "no more than the weights": all(triple[2] <= self.weight(*triple[:2]) for triple in row),
            "as much out as in": all(goes_out[man] == comes[man] for man in self.folk if man not in (one, other)),
            "nothing to the one": comes[one] == 0,
            "nothing from the other": goes_out[other] == 0,
        }
        return [word for word, good in found.items() if not good]


def some_manors(dice, acres, men, estates, lieges):
    """Rows by which each estate is granted to one of the men under one that is there already, and lieges chosen."""
    rows, own = [], {"": acres}
    for day, new in enumerate(estates):
        lord = dice.of([name for name, many in own.items() if many > 1])
        many = 1 + dice.below(max(1, own[lord] // 2))
        own[lord] -= many
        own[new] = many
        rows.append(("grant", day, lord, new, dice.of(men), many, dice.below(50)))
    for day in range(lieges):
        man, lord = dice.of(men), dice.of(men + [""])
        if man != lord:
            rows.append(("liege", len(estates) + day, man, lord))
    return rows


def even_manors(dice, men, more, lieges):
    """Rows by which all men hold alike of the crown, and some hold alike of others: many sidings are least at once."""
    rows = [("grant", 0, "", "of" + man, man, 100, 1) for man in men]
    rows += [("grant", 1, "of" + dice.of(men), "more" + new, dice.of(men), 10, 1) for new in "abcdefghij"[:more]]
    rows += [("liege", 2, man, lord) for man in men[:lieges] for lord in [dice.of(men + ["", ""])] if man != lord]
    return rows


def lively_rows(dice, acres, men):
    """Rows of all kinds, no two equal, most of which stand: the estates are a to l, the days 0 to 12."""
    rows = some_manors(dice, acres, men, list("abcdefgh"), 3)
    rows += [("part", 3 + dice.below(9), dice.of("abcdefgh"), new, dice.of(men), 1 + dice.below(3)) for new in "ijkl"]
    rows += [("convey", 2 + dice.below(11), dice.of("abcdefghij"), dice.of(men)) for many in range(4)]
    rows += [("surrender", 4 + dice.below(9), dice.of("abcdefghij")) for many in range(2)]
    rows += [("heir", dice.below(9), men[at - 1], man) for at, man in enumerate(men) if dice.below(2)]
    rows += [("death", 6 + dice.below(7), dice.of(men))]
    return list(dict.fromkeys(rows))
