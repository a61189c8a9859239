"""A slow and plain telling of the land and of the judging of charters, to hold the program against."""

from fractions import Fraction

KINDS = ["heir", "grant", "part", "convey", "liege", "surrender", "death"]


def pair(fraction):
    return (fraction.numerator, fraction.denominator)


class SlowLand:
    """Estates by names, each a dict; whatever can be reckoned is reckoned anew."""

    def __init__(self, acres):
        self.all = {"": {"lord": None, "holder": "", "own": acres, "service": Fraction(0)}}

    def under(self, name):
        return sorted(other for other, estate in self.all.items() if estate["lord"] == name)

    def breadth(self, name):
        return self.all[name]["own"] + sum(self.breadth(other) for other in self.under(name))

    def chain(self, name):
        lord = self.all[name]["lord"]
        return [name] + ([] if lord is None else self.chain(lord))

    def held(self, man):
        return sorted(name for name, estate in self.all.items() if estate["holder"] == man)

    def grant(self, estate, new, man, acres, service):
        self.all[estate]["own"] -= acres
        self.all[new] = {"lord": estate, "holder": man, "own": acres, "service": Fraction(service)}

    def part_off(self, estate, new, man, acres):
        old = self.all[estate]
        going = old["service"] * Fraction(acres, self.breadth(estate))
        old["own"] -= acres
        old["service"] -= going
        self.all[new] = {"lord": old["lord"], "holder": man, "own": acres, "service": going}

    def convey(self, estate, man):
        self.all[estate]["holder"] = man

    def fall_back(self, estate):
        gone = self.all.pop(estate)
        self.all[gone["lord"]]["own"] += gone["own"]
        for other in self.all.values():
            if other["lord"] == estate:
                other["lord"] = gone["lord"]

    def picture(self):
        return {name: (estate["holder"], estate["lord"], estate["own"], self.breadth(name),
                       pair(estate["service"]), self.chain(name), self.under(name))
                for name, estate in self.all.items()}

    def plain(self):
        return {name: tuple(estate.values()) for name, estate in self.all.items()}


def picture(land):
    """All that a Land tells of each of its estates."""
    return {name: (land.holder(name), land.lord(name), land.own(name), land.breadth(name),
                   land.service(name), land.chain(name), land.under(name))
            for name in [""] + land.estates()}


class SlowCourt:
    """Judges all charters up to a day, from the beginning, at each asking."""

    def __init__(self, acres, rows, day=9999):
        self.land = SlowLand(acres)
        self.names, self.heirs, self.dead, self.lieges, self.told = set(), {}, set(), {}, []
        for row in sorted(rows, key=lambda row: (row[1], KINDS.index(row[0]), row)):
            if row[1] <= day:
                word = self.word(row)
                if word == "stands":
                    getattr(self, "do_" + row[0])(*row[2:])
                self.told.append((row, word))

    def word(self, row):
        return next((word for due, word in getattr(self, "ask_" + row[0])(*row[2:]) if due), "stands")

    def ask_grant(self, estate, new, man, acres, service=0):
        return [(estate not in self.land.all, "nowhere"), (new in self.names, "taken"), (man in self.dead, "dead"),
                (acres > self.land.all.get(estate, {"own": 0})["own"], "acres")]

    ask_part = ask_grant

    def ask_convey(self, estate, man):
        return [(estate not in self.land.all, "nowhere"), (man in self.dead, "dead")]

    def ask_surrender(self, estate):
        return [(estate not in self.land.all, "nowhere")]

    def ask_heir(self, man, heir):
        return [(man in self.dead, "dead")]

    def ask_death(self, man):
        return [(man in self.dead, "dead")]

    def ask_liege(self, man, lord):
        lords = [self.land.all[self.land.all[name]["lord"]]["holder"] for name in self.land.held(man)]
        return [(man in self.dead, "dead"), (lord not in lords, "nobond")]

    def do_grant(self, estate, new, man, acres, service):
        self.names.add(new)
        self.land.grant(estate, new, man, acres, service)

    def do_part(self, estate, new, man, acres):
        self.names.add(new)
        self.land.part_off(estate, new, man, acres)

    def do_convey(self, estate, man):
        self.land.convey(estate, man)

    def do_surrender(self, estate):
        self.land.fall_back(estate)

    def do_heir(self, man, heir):
        self.heirs[man] = heir

    def do_liege(self, man, lord):
        self.lieges[man] = lord

    def do_death(self, man):
        self.dead.add(man)
        taker = self.taker(man)
        for estate in self.land.held(man):
            if taker is None:
                self.land.fall_back(estate)
            else:
                self.land.convey(estate, taker)

    def taker(self, man):
        line = [man]
        while line[-1] in self.heirs:
            line.append(self.heirs[line[-1]])
            if line[-1] in line[:-1]:
                return None
            if line[-1] not in self.dead:
                return line[-1]
        return None


def slow_spells(acres, rows):
    """The spells, told by the lands of all days that a charter has and of those beside them."""
    days = sorted({0} | {row[1] for row in rows})
    firsts = [0]
    for day in days[1:]:
        if SlowCourt(acres, rows, day).land.plain() != SlowCourt(acres, rows, day - 1).land.plain():
            firsts.append(day)
    return list(zip(firsts, firsts[1:] + [None]))


class Dice:
    """Numbers that look thrown and are the same at each run."""

    def __init__(self, seed):
        self.state = seed * 7919 + 12345

    def below(self, bound):
        self.state = (self.state * 6364136223846793005 + 1442695040888963407) % 2 ** 64
        return (self.state >> 33) % bound

    def of(self, things):
        return things[self.below(len(things))]


def some_rows(dice, many, estates, men, last_day):
    """Well-made rows, no two equal, many of which stand."""
    rows = {}
    while len(rows) < many:
        kind, day = dice.of(KINDS + ["grant"] * 3 + ["part"] * 2 + ["convey"]), dice.below(last_day + 1)
        man, other, estate, new = dice.of(men), dice.of(men), dice.of(estates), dice.of(estates)
        crowned = dice.below(3) == 0
        row = {
            "heir": ("heir", day, man, other),
            "grant": ("grant", day, "" if crowned else estate, new, man, 1 + dice.below(12), dice.below(9)),
            "part": ("part", day, estate, new, man, 1 + dice.below(6)),
            "convey": ("convey", day, estate, man),
            "liege": ("liege", day, man, "" if crowned else other),
            "surrender": ("surrender", day, estate),
            "death": ("death", day, man),
        }[kind]
        if kind not in ("heir", "liege") or row[2] != row[3]:
            rows[row] = True
    return list(rows)
