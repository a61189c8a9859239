"""What the tests of refusals share."""

import unittest

from manrent.errors import LandError, NoEntry, NoEstate, NoForm, NoLand, NoMan, NoQuarrel, NoText, NothingThere, Twice

ALL = (NoForm, NoEntry, Twice, NothingThere, NoEstate, NoMan, NoQuarrel, NoLand, NoText)


class Refusing(unittest.TestCase):
    def refused(self, kind, deed, *things):
        """The deed is refused with the one class, and with no other one of the program's; the refusal is told."""
        with self.assertRaises(LandError) as held:
            deed(*things)
        for other in ALL:
            self.assertEqual(isinstance(held.exception, other), other is kind)
        self.assertIsInstance(held.exception, ValueError)
        return held.exception
