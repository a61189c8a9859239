import unittest

from manrent.court import Court
from manrent.errors import NoMan, NoQuarrel
from manrent.papers import shows, worth
from manrent.quarrels import far, near, streams
from oracle import Dice, SlowQuarrels, even_manors, lively_rows, some_manors
from refusing import Refusing

MEN = ["ann", "bob", "cat", "dan", "eve", "fay"]
# Bob is bound to ann by 20 acres and to the crown by 30, cat to bob by 5, dan to the crown by 10 and to ann by 6.
ROWS = [
    ("grant", 1, "", "hill", "ann", 60, 12),
    ("grant", 1, "", "moor", "bob", 30, 4),
    ("grant", 2, "hill", "dale", "bob", 20, 3),
    ("grant", 3, "dale", "fen", "cat", 5, 1),
    ("grant", 3, "", "lea", "dan", 10, 1),
    ("grant", 4, "hill", "wold", "dan", 6, 1),
]
RIGHT = [("", "bob", 30), ("ann", "", 30), ("ann", "bob", 20)]


class Worth(unittest.TestCase):
    def setUp(self):
        self.court = Court(100, 1, list(ROWS))

    def worth(self, row):
        handed = list(row)
        told = worth(self.court, 5, "ann", "bob", handed)
        self.assertEqual(handed, row)
        return told

    def test_right_ones(self):
        self.assertEqual(self.worth(RIGHT), 50)
        self.assertEqual(self.worth(RIGHT[::-1]), 50)
        self.assertEqual(self.worth([RIGHT[1], RIGHT[0], RIGHT[2]]), 50)
        self.assertEqual(self.worth([("ann", "bob", 20)]), 20)
        self.assertEqual(self.worth([("ann", "bob", 1)]), 1)
        self.assertEqual(self.worth([("ann", "", 7), ("", "bob", 7)]), 7)
        self.assertEqual(self.worth([("ann", "dan", 6), ("dan", "", 6), ("", "bob", 30), ("ann", "", 24)]), 30)
        self.assertEqual(self.worth(streams(self.court, 5, "ann", "bob")), 50)

    def test_none_at_all(self):
        self.assertEqual(self.worth([]), 0)
        self.assertEqual(worth(self.court, 1, "", "ann", []), 0)

    def test_each_with_one_thing_wrong(self):
        for row in (
                RIGHT[1:], RIGHT[::2],                                      # one left out
                RIGHT + [("ann", "bob", 20)], RIGHT + [("ann", "", 30)],    # one twice
                RIGHT[:2] + [("bob", "ann", 20)], [("bob", "", 30)] + RIGHT[1:], [RIGHT[0], ("", "ann", 30), RIGHT[2]],
                [("", "bob", 31)] + RIGHT[1:], [("", "bob", 29)] + RIGHT[1:], [RIGHT[0], ("ann", "", 31), RIGHT[2]],
                [RIGHT[0], ("ann", "", 29), RIGHT[2]], RIGHT[:2] + [("ann", "bob", 21)],
                [("", "bob", 31), ("ann", "", 31)],                         # balanced, but more than the bonds bear
                RIGHT[:2] + [("ann", "bob", 0)], [("ann", "bob", 0)], [("ann", "bob", -1)], [("bob", "ann", -20)],
                RIGHT[:2] + [("dan", "bob", 20)], RIGHT[:2] + [("cat", "bob", 5)], RIGHT[:2] + [("ann", "dan", 6)],
                RIGHT[:2] + [("eve", "bob", 20)], RIGHT[:2] + [("ann", "eve", 20)], RIGHT + [("eve", "fay", 1)],
                RIGHT + [("eve", "eve", 1)], RIGHT + [("dan", "dan", 1)], RIGHT + [("ann", "ann", 1)],
                [("ann", "cat", 5), ("cat", "bob", 5)],                     # no bond between ann and cat
                [("bob", "cat", 5), ("cat", "bob", 5)], [("ann", "bob", 5), ("bob", "cat", 5), ("cat", "bob", 5)],
                [("ann", "bob", 10), ("ann", "bob", 10)], [("ann", "", 5), ("", "ann", 5)],
                [("ann", "bob", 15), ("bob", "ann", 5)]):
            self.assertIsNone(self.worth(row))

    def test_each_stream_one_more_and_one_less(self):
        for at, (giver, taker, many) in enumerate(RIGHT[:2]):
            for other in (many - 1, many + 1, 0, -many, 1):
                changed = list(RIGHT)
                changed[at] = (giver, taker, other)
                self.assertIsNone(self.worth(changed))
        for many in range(1, 21):
            self.assertEqual(self.worth(RIGHT[:2] + [("ann", "bob", many)]), 30 + many)

    def test_one_more_to_the_one_or_out_of_the_other(self):
        row = [("ann", "", 10), ("", "dan", 5), ("dan", "ann", 5), ("", "bob", 5)]
        self.assertIsNone(self.worth(row))
        row = [("ann", "bob", 10), ("bob", "", 5), ("", "dan", 5), ("dan", "ann", 5)]
        self.assertIsNone(self.worth(row))
        row = [("ann", "bob", 10), ("bob", "cat", 5)]
        self.assertIsNone(self.worth(row))

    def test_a_ring_of_three(self):
        ring = [("", "dan", 6), ("dan", "ann", 6), ("ann", "", 6)]
        # In the quarrel of bob and cat none of the ring is of the quarrel.
        self.assertEqual(worth(self.court, 5, "bob", "cat", [("bob", "cat", 5)]), 5)
        self.assertEqual(worth(self.court, 5, "bob", "cat", [("bob", "cat", 5)] + ring), 5)
        self.assertEqual(worth(self.court, 5, "cat", "bob", ring[::-1] + [("cat", "bob", 4)]), 4)
        self.assertEqual(worth(self.court, 5, "bob", "cat", ring), 0)
        self.assertIsNone(worth(self.court, 5, "bob", "cat", [("bob", "cat", 5), ("", "dan", 7), ("dan", "ann", 7), ("ann", "", 7)]))
        self.assertIsNone(worth(self.court, 5, "bob", "cat", [("bob", "cat", 5)] + ring[:2]))
        # Ann is in the ring, and of the quarrel.
        self.assertIsNone(self.worth(RIGHT + ring))
        self.assertIsNone(worth(self.court, 5, "ann", "bob", ring))

    def test_two_bonds_between_two(self):
        rows = ROWS + [("grant", 5, "moor", "glen", "ann", 8, 1)]
        court = Court(100, 1, rows)
        self.assertEqual(worth(court, 5, "ann", "bob", [("ann", "bob", 28)]), 28)
        self.assertIsNone(worth(court, 5, "ann", "bob", [("ann", "bob", 29)]))
        court = Court(100, 1, rows + [("liege", 6, "bob", "ann")])
        self.assertEqual(worth(court, 6, "ann", "bob", [("ann", "bob", 128)]), 128)
        self.assertIsNone(worth(court, 6, "ann", "bob", [("ann", "bob", 129)]))

    def test_by_days(self):
        self.assertIsNone(worth(self.court, 1, "ann", "bob", RIGHT))
        self.assertEqual(worth(self.court, 2, "ann", "bob", RIGHT), 50)
        self.assertIsNone(worth(self.court, 5, "bob", "ann", RIGHT))
        turned = [(taker, giver, many) for giver, taker, many in RIGHT]
        self.assertEqual(worth(self.court, 5, "bob", "ann", turned), 50)


class Shows(unittest.TestCase):
    def setUp(self):
        self.court = Court(100, 1, list(ROWS))
        self.row = streams(self.court, 5, "ann", "bob")
        self.siding = near(self.court, 5, "ann", "bob")

    def shows(self, siding, row):
        handed, streams_handed = list(siding), list(row)
        told = shows(self.court, 5, "ann", "bob", handed, streams_handed)
        self.assertEqual((handed, streams_handed), (siding, row))
        self.assertIs(type(told), bool)
        return told

    def test_the_near_and_the_far_one(self):
        self.assertEqual(self.siding, ["", "ann", "dan"])
        self.assertTrue(self.shows(self.siding, self.row))
        self.assertTrue(self.shows(self.siding, self.row[::-1]))
        self.assertTrue(self.shows(far(self.court, 5, "ann", "bob"), self.row))

    def test_free_ones_on_either_side(self):
        court = Court(100, 1, [("grant", 1, "", "hill", "ann", 30, 1), ("grant", 1, "", "moor", "bob", 30, 1)])
        row = streams(court, 1, "ann", "bob")
        for siding, told in ((["ann"], True), (["", "ann"], True), (["ann", "bob"], False), ([""], False), ([], False),
                             (["bob"], False), (["", "bob"], False)):
            self.assertIs(shows(court, 1, "ann", "bob", siding, row), told)

    def test_no_siding_of_the_quarrel(self):
        for siding in (["", "dan", "ann"], ["dan", "ann", ""], ["ann", "dan", ""], ["", "ann", "bob", "dan"],
                       ["", "dan"], ["bob", "cat"], [], ["", "ann", "ann", "dan"], ["", "", "ann", "dan"],
                       ["", "ann", "dan", "eve"], ["", "ann", "dan", "zed"], ["", "aaa", "ann", "dan"],
                       ["", "ann", "bob", "cat", "dan"]):
            self.assertFalse(self.shows(siding, self.row))

    def test_sidings_that_are_not_least(self):
        for siding in (["ann"], ["", "ann"], ["ann", "dan"], ["ann", "cat"], ["", "ann", "cat", "dan"]):
            self.assertFalse(self.shows(siding, self.row))

    def test_streams_that_are_worth_less_or_not_right(self):
        for row in ([], RIGHT[:2], RIGHT[:2] + [("ann", "bob", 19)], RIGHT[:2] + [("ann", "bob", 21)], RIGHT[1:],
                    RIGHT + [("eve", "fay", 1)], [("", "bob", 31), ("ann", "", 31), ("ann", "bob", 20)]):
            self.assertFalse(self.shows(self.siding, row))
        self.assertTrue(self.shows(self.siding, RIGHT))

    def test_nothing_broken_and_nothing_going(self):
        # Streams of the worth 0 show only a siding that breaks nothing; there is none here.
        for siding in (["ann"], ["", "ann", "dan"]):
            self.assertFalse(self.shows(siding, []))
        # There is one where all acres of an estate were parted off.
        court = Court(100, 1, [("grant", 1, "", "hill", "eve", 60, 12), ("part", 2, "hill", "dale", "bob", 60)])
        self.assertTrue(shows(court, 2, "eve", "bob", ["eve"], []))
        self.assertFalse(shows(court, 2, "eve", "bob", ["", "eve"], []))
        self.assertIsNone(worth(court, 2, "eve", "", [("eve", "", 1)]))

    def test_liege_bonds(self):
        court = Court(100, 1, ROWS + [("liege", 5, "bob", "ann"), ("liege", 5, "ann", "")])
        row = streams(court, 5, "ann", "bob")
        siding = near(court, 5, "ann", "bob")
        self.assertTrue(shows(court, 5, "ann", "bob", siding, row))
        # The great weight is 1 and 51 acres.
        self.assertEqual(worth(court, 5, "ann", "bob", row), 52 + 30)
        self.assertFalse(shows(court, 4, "ann", "bob", siding, row))

    def test_the_quarrel_told_the_other_way_round(self):
        turned = [(taker, giver, many) for giver, taker, many in self.row]
        self.assertTrue(shows(self.court, 5, "bob", "ann", ["bob", "cat"], turned))
        self.assertFalse(shows(self.court, 5, "bob", "ann", ["bob", "cat"], self.row))
        self.assertFalse(shows(self.court, 5, "bob", "ann", self.siding, turned))


class Refusals(Refusing):
    def test_no_man_and_no_quarrel(self):
        court = Court(100, 1, ROWS + [("death", 9, "cat")])
        for day, one, other in ((5, "eve", "ann"), (5, "ann", "eve"), (5, "eve", "eve"), (2, "cat", "ann"), (9, "cat", "ann"),
                                (9, "cat", "cat"), (5, "hill", "ann"), (0, "", "ann")):
            for row in ([], RIGHT, [("eve", "eve", 0)]):
                self.refused(NoMan, worth, court, day, one, other, row)
                self.refused(NoMan, shows, court, day, one, other, [one], row)
        for one in ("", "ann", "cat"):
            for row in ([], RIGHT, [("eve", "eve", 0)]):
                self.refused(NoQuarrel, worth, court, 5, one, one, row)
                self.refused(NoQuarrel, shows, court, 5, one, one, ["eve"], row)
        self.assertEqual(worth(court, 5, "ann", "bob", RIGHT), 50)


class ManyQuarrels(unittest.TestCase):
    def cases(self):
        for seed in range(18):
            dice = Dice(seed)
            if seed % 3 == 0:
                yield 9000, even_manors(dice, MEN[:2 + seed % 5], seed % 11, seed % 7), 30
            elif seed % 3 == 1:
                yield 9000, some_manors(dice, 9000, MEN, list("abcdefghijkl"), 4), 30
            else:
                yield 60, lively_rows(dice, 60, MEN[:5]), 9

    def damaged(self, dice, row, folk):
        """The streams with something or other done to them."""
        row = list(row)
        at = dice.below(len(row))
        giver, taker, many = row[at]
        some = folk + ["zed"]
        row[at:at + 1] = dice.of([
            [], [row[at], row[at]], [(taker, giver, many)], [(giver, taker, many + 1)], [(giver, taker, many - 1)],
            [(giver, taker, 0)], [(dice.of(some), taker, many)], [(giver, dice.of(some), many)],
            [row[at], (dice.of(some), dice.of(some), 1)], [row[at], (taker, giver, 1)],
            [(giver, taker, max(1, many // 2)), (giver, taker, many - many // 2)],
        ])
        ring = [dice.of(folk) for side in range(3)]
        if dice.below(3) == 0:
            row += [(ring[at - 1], ring[at], 1) for at in range(3)]
        return row

    def test_damaged_streams(self):
        told = {True: 0, False: 0}
        for acres, rows, day in self.cases():
            dice = Dice(len(rows))
            court, slow = Court(acres, 1, rows), SlowQuarrels(acres, rows, day)
            for one in slow.folk:
                for other in slow.folk[::2]:
                    if one != other:
                        row = streams(court, day, one, other)
                        for many in range(6):
                            changed = self.damaged(dice, row, slow.folk)
                            right = not slow.wrongs(changed, one, other)
                            told[right] += 1
                            value = sum(many for giver, taker, many in changed if giver == one)
                            self.assertEqual(worth(court, day, one, other, changed), value if right else None)
                            self.assertIs(shows(court, day, one, other, near(court, day, one, other), changed),
                                          right and value == slow.weighs(near(court, day, one, other)))
        self.assertGreater(min(told.values()), 50)

    def test_all_sidings(self):
        for acres, rows, day in self.cases():
            court, slow = Court(acres, 1, rows), SlowQuarrels(acres, rows, day)
            for one, other in list(zip(slow.folk, slow.folk[1:])) + list(zip(slow.folk[2:], slow.folk)):
                row, least = streams(court, day, one, other), slow.least(one, other)
                for siding in slow.sidings(one, other):
                    self.assertIs(shows(court, day, one, other, siding, row), siding in least)
                for siding in slow.sidings(other, one):
                    self.assertIs(shows(court, day, one, other, siding, row), False)
                # No right streams are worth more than any siding weighs.
                self.assertEqual(worth(court, day, one, other, row), min(map(slow.weighs, slow.sidings(one, other))))


if __name__ == "__main__":
    unittest.main()
