"""The court: judges charters, and answers for the land that they leave day by day."""

from manrent.charters import fits, judged_order
from manrent.errors import NoEntry, NoLand
from manrent.judging import Realm, judge
from manrent.land import check_acres


class Court:
    """So many acres, the coins that each bears a day, and the charters."""

    def __init__(self, acres, bears, rows):
        check_land(acres, bears)
        self.many_acres = acres
        self.coins = bears
        self.realm = Realm(acres)
        # Pairs (row, word) in the order in which the rows are judged.
        self.judged = []
        # Pairs (first day, land), one for each spell, rising.
        self.lands = [(0, self.realm.ground.twin())]
        for day, judged_then in by_days(rows).items():
            for row in judged_then:
                self.judged.append((row, judge(self.realm, row)))
            self.end_day(day)

    def end_day(self, day):
        """Keep the land as the day's charters have left it, where it is another one than ahead."""
        ground = self.realm.ground
        if day == 0:
            # What was ahead of day 0 is the land of no day.
            self.lands = [(0, ground.twin())]
        elif not ground.same(self.lands[-1][1]):
            self.lands.append((day, ground.twin()))

    def acres(self):
        """The acres of the land."""
        return self.many_acres

    def bears(self):
        """The coins that an acre bears a day."""
        return self.coins

    def verdicts(self):
        """The pairs (row, word) in the order in which the rows are judged."""
        return list(self.judged)

    def verdict(self, row):
        """The word of a row that is one of the charters, else refused."""
        for charter, word in self.judged:
            if charter == row:
                return word
        raise NoEntry("the row is none of the charters")

    def land(self, day):
        """The land of a day, a new Land at each asking."""
        ground = self.lands[0][1]
        for first, later in self.lands:
            if first <= day:
                ground = later
        return ground.twin()

    def spells(self):
        """The pairs (first, end) of the spells, rising; the last end is None."""
        firsts = [first for first, ground in self.lands]
        return list(zip(firsts, firsts[1:] + [None]))

    def liege(self, day, man):
        """The man's liege lord by the day, or None."""
        chosen = None
        for since, lord in self.realm.lieges.get(man, []):
            if since <= day:
                chosen = lord
        return chosen

    def dead(self, day, man):
        """True where the man is dead by the day, else False."""
        return man in self.realm.deaths and self.realm.deaths[man] <= day


def check_land(acres, bears):
    """None where a land may have so many acres, each bearing so many coins, else refused."""
    check_acres(acres)
    if not fits("bears", bears):
        raise NoLand("an acre bears from 0 to 99 coins a day")


def by_days(rows):
    """The rows by their days, rising, those of one day in the order in which they are judged."""
    days = {}
    for row in judged_order(rows):
        days.setdefault(row[1], []).append(row)
    return days
