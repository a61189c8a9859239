"""Who is dead, and who takes after whom."""

from manrent.charters import CROWN


class Kin:
    """The heirs that men have named, and the dead; at first nobody is dead."""

    def __init__(self):
        self.heir_of = {}
        self.gone = {}

    def name_heir(self, man, heir):
        """The heir is the man's heir, in the place of an earlier one."""
        # The crown has no heir, whatever is named.
        if man != CROWN:
            self.heir_of[man] = heir

    def die(self, man):
        """The man is dead."""
        # The crown is never dead.
        if man != CROWN:
            self.gone[man] = True

    def is_dead(self, man):
        """True where the man is dead, else False."""
        return man in self.gone

    def taker(self, man):
        """The first one along the heirs who isn't dead, or None where there is none."""
        met = {man}
        heir = self.heir_of.get(man)
        while heir is not None and heir not in met:
            if not self.is_dead(heir):
                return heir
            met.add(heir)
            heir = self.heir_of.get(heir)
        return None
