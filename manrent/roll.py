"""The roll: charters by numbers, and deeds that can be taken back and done again."""

from manrent.charters import check_row
from manrent.court import Court, check_land
from manrent.errors import NoEntry, NothingThere, Twice


class Roll:
    """So many acres, the coins that each bears a day, and the charters that were entered."""

    def __init__(self, acres, bears):
        check_land(acres, bears)
        self.many_acres = acres
        self.coins = bears
        # The free number, and the rows by their numbers. Such a pair is never
        # changed: each deed makes a new one, so that old ones can be kept.
        self.standing = (1, {})
        # What stood ahead of each deed done, and behind each deed taken back, the last one last.
        self.earlier = []
        self.later = []

    def acres(self):
        """The acres of the land."""
        return self.many_acres

    def bears(self):
        """The coins that an acre bears a day."""
        return self.coins

    def free(self):
        """The number that the next row gets."""
        return self.standing[0]

    def rows(self):
        """The pairs (number, row) by numbers."""
        return sorted(self.standing[1].items())

    def enter(self, row):
        """A row is entered; its number is told."""
        return self.enter_all([row])[0]

    def enter_all(self, rows):
        """Rows are entered together; the list of their numbers is told."""
        for row in rows:
            check_row(row)
        first, held = self.standing
        entered = dict(held)
        for number, row in enumerate(rows, start=first):
            check_alone(row, entered)
            entered[number] = row
        free = first + len(rows)
        self.settle(free, entered)
        return list(range(first, free))

    def strike(self, number):
        """The row of a number is struck out and told."""
        old = self.row_at(number)
        free, held = self.standing
        left = dict(held)
        del left[number]
        self.settle(free, left)
        return old

    def correct(self, number, row):
        """A row is put in the place of a number's row, which is told."""
        check_row(row)
        old = self.row_at(number)
        free, held = self.standing
        corrected = dict(held)
        del corrected[number]
        check_alone(row, corrected)
        corrected[number] = row
        self.settle(free, corrected)
        return old

    def back(self):
        """The last deed that isn't taken back is taken back."""
        if not self.earlier:
            raise NothingThere("there is no deed to take back")
        self.later.append(self.standing)
        self.standing = self.earlier.pop()

    def again(self):
        """The deed that was taken back last is done again."""
        if not self.later:
            raise NothingThere("no deed was taken back")
        self.earlier.append(self.standing)
        self.standing = self.later.pop()

    def court(self):
        """A court of the land and the charters that stand now."""
        return Court(self.many_acres, self.coins, list(self.standing[1].values()))

    def charter(self, number):
        """The word of the verdict on the row of a number."""
        return self.court().verdict(self.row_at(number))

    def twin(self):
        """Another roll with all that this one has; neither changes the other."""
        other = Roll(self.many_acres, self.coins)
        other.standing = self.standing
        other.earlier = list(self.earlier)
        other.later = list(self.later)
        return other

    def row_at(self, number):
        """The row of a number, else refused."""
        if number not in self.standing[1]:
            raise NoEntry("no row has the number")
        return self.standing[1][number]

    def settle(self, free, held):
        """A deed is done by which the free number and the rows are these."""
        self.earlier.append(self.standing)
        self.standing = (free, held)
        self.later = []


def check_alone(row, held):
    """None where no row that is held equals the row, else refused."""
    if row in list(held.values()):
        raise Twice("an equal row stands already")


def roll_of(acres, bears, free, held):
    """A roll of such land, rows by numbers and free number, without deeds."""
    roll = Roll(acres, bears)
    roll.standing = (free, dict(held))
    return roll
