"""The land: its estates, each with its lord, holder, own acres and service."""

from manrent.charters import CROWN, fits
from manrent.errors import NoEstate, NoLand
from manrent.parts import minus, part


class Land:
    """So many acres, all of them the crown's own at first."""

    def __init__(self, acres):
        check_acres(acres)
        self.lord_of = {CROWN: None}
        self.holder_of = {CROWN: CROWN}
        self.own_of = {CROWN: acres}
        self.service_of = {CROWN: (0, 1)}
        # A grant or a fall moves acres within the breadths that they are in,
        # so breadths are kept instead of being reckoned at each asking.
        self.breadth_of = {CROWN: acres}

    def there(self, estate):
        """True where the estate is there, else False."""
        return estate in self.lord_of

    def estates(self):
        """The names of all estates but the crown's, sorted."""
        return sorted([name for name in self.lord_of if name != CROWN])

    def holder(self, estate):
        """Who holds the estate."""
        self.check_there(estate)
        return self.holder_of[estate]

    def lord(self, estate):
        """The estate's lord, an estate; None of the crown's."""
        self.check_there(estate)
        return self.lord_of[estate]

    def own(self, estate):
        """The count of the estate's own acres."""
        self.check_there(estate)
        return self.own_of[estate]

    def breadth(self, estate):
        """The estate's own acres and the breadths of all under it, together."""
        self.check_there(estate)
        return self.breadth_of[estate]

    def service(self, estate):
        """The estate's service, a fraction of coins a day."""
        self.check_there(estate)
        return self.service_of[estate]

    def chain(self, estate):
        """The estate, its lord, that one's lord, and so on up to the crown's."""
        self.check_there(estate)
        row = []
        while estate is not None:
            row.append(estate)
            estate = self.lord_of[estate]
        return row

    def held(self, man):
        """The names of the estates that the man holds, sorted."""
        return sorted([name for name, holder in self.holder_of.items() if holder == man])

    def under(self, estate):
        """The names of the estates whose lord it is, sorted."""
        self.check_there(estate)
        return sorted([name for name, lord in self.lord_of.items() if lord == estate])

    def folk(self):
        """The crown and all who hold an estate, sorted."""
        return sorted({man for man in self.holder_of.values()})

    def grant(self, estate, new, man, acres, service):
        """A new estate under the estate, out of its own acres."""
        self.own_of[estate] -= acres
        self.add_estate(new, estate, man, acres, (service, 1))

    def part_off(self, estate, new, man, acres):
        """A new estate beside the estate, out of its own acres, with their part of its service."""
        service = self.service_of[estate]
        going = part(service[0] * acres, service[1] * self.breadth_of[estate])
        self.own_of[estate] -= acres
        self.breadth_of[estate] -= acres
        self.service_of[estate] = minus(service, going)
        self.add_estate(new, self.lord_of[estate], man, acres, going)

    def convey(self, estate, man):
        """The man holds the estate."""
        self.holder_of[estate] = man

    def fall_back(self, estate):
        """The estate is there no longer: its lord has its acres and those under it."""
        lord = self.lord_of[estate]
        self.own_of[lord] += self.own_of[estate]
        for name in self.under(estate):
            self.lord_of[name] = lord
        del self.lord_of[estate]
        del self.holder_of[estate]
        del self.own_of[estate]
        del self.service_of[estate]
        del self.breadth_of[estate]

    def same(self, other):
        """True where the two lands have the same estates, and these are alike."""
        return (self.lord_of == other.lord_of and self.holder_of == other.holder_of
                and self.own_of == other.own_of and self.service_of == other.service_of)

    def twin(self):
        """Another land that is the same; neither changes the other."""
        other = Land(self.breadth_of[CROWN])
        other.lord_of = dict(self.lord_of)
        other.holder_of = dict(self.holder_of)
        other.own_of = dict(self.own_of)
        other.service_of = dict(self.service_of)
        other.breadth_of = dict(self.breadth_of)
        return other

    def check_there(self, estate):
        """None where the estate is there, else refused."""
        if not self.there(estate):
            raise NoEstate("the estate isn't there")

    def add_estate(self, name, lord, holder, acres, service):
        """A new estate with nothing under it."""
        self.lord_of[name] = lord
        self.holder_of[name] = holder
        self.own_of[name] = acres
        self.service_of[name] = service
        self.breadth_of[name] = acres


def check_acres(acres):
    """None where a land may have so many acres, else refused."""
    if not fits("acres", acres):
        raise NoLand("a land has from 1 to 9,999 acres")
