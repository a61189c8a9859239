import unittest

from manrent.bonds import bonds, great, weight
from manrent.court import Court
from oracle import Dice, SlowQuarrels, lively_rows, some_manors

MEN = ["ann", "bob", "cat", "dan", "eve"]
ROWS = [
    ("grant", 1, "", "hill", "ann", 60, 12),
    ("grant", 1, "", "moor", "bob", 30, 4),
    ("grant", 2, "hill", "dale", "bob", 20, 3),
]
# Ann and bob hold of one another.
EACH_OF_THE_OTHER = ROWS + [("grant", 3, "moor", "fen", "ann", 7, 1)]


class Bonds(unittest.TestCase):
    def test_without_charters(self):
        court = Court(10, 1, [])
        for day in (0, 9999):
            self.assertEqual(bonds(court, day), [])
            self.assertEqual(great(court, day), 1)
            self.assertEqual(weight(court, day, "", ""), 0)
            self.assertEqual(weight(court, day, "", "ann"), 0)

    def test_by_days(self):
        court = Court(100, 1, ROWS + [("surrender", 9, "moor")])
        self.assertEqual(bonds(court, 0), [])
        self.assertEqual(bonds(court, 1), [("ann", "", 60, False), ("bob", "", 30, False)])
        full = [("ann", "", 60, False), ("bob", "", 30, False), ("bob", "ann", 20, False)]
        for day in (2, 3, 8):
            self.assertEqual(bonds(court, day), full)
        for day in (9, 10, 9999):
            self.assertEqual(bonds(court, day), [full[0], full[2]])

    def test_two_who_hold_of_one_another(self):
        court = Court(100, 1, list(EACH_OF_THE_OTHER))
        self.assertEqual(bonds(court, 3), [("ann", "", 60, False), ("ann", "bob", 7, False), ("bob", "", 30, False),
                                           ("bob", "ann", 20, False)])
        self.assertEqual(great(court, 3), 118)
        self.assertEqual(weight(court, 3, "ann", "bob"), 27)
        self.assertEqual(weight(court, 3, "bob", "ann"), 27)

    def test_several_estates_under_one_lord(self):
        rows = ROWS + [("grant", 3, "", "glen", "ann", 5, 1), ("grant", 4, "glen", "fen", "bob", 2, 1),
                       ("grant", 5, "hill", "lea", "bob", 9, 1), ("part", 6, "dale", "weald", "bob", 4)]
        court = Court(100, 1, rows)
        self.assertEqual(bonds(court, 6), [("ann", "", 65, False), ("bob", "", 30, False), ("bob", "ann", 31, False)])

    def test_breadths_and_not_own_acres(self):
        rows = [("grant", 1, "", "hill", "ann", 60, 1), ("grant", 2, "hill", "dale", "bob", 60, 1),
                ("grant", 3, "dale", "fen", "cat", 59, 1)]
        self.assertEqual(bonds(Court(100, 1, rows), 3),
                         [("ann", "", 60, False), ("bob", "ann", 60, False), ("cat", "bob", 59, False)])

    def test_an_estate_above_another_of_the_same_two(self):
        rows = [("grant", 1, "", "hill", "ann", 60, 1), ("grant", 2, "hill", "dale", "bob", 50, 1),
                ("grant", 3, "dale", "fen", "ann", 40, 1), ("grant", 4, "fen", "lea", "bob", 30, 1)]
        self.assertEqual(bonds(Court(100, 1, rows), 4),
                         [("ann", "", 60, False), ("ann", "bob", 40, False), ("bob", "ann", 80, False)])

    def test_nobody_is_bound_to_himself(self):
        rows = [("grant", 1, "", "hill", "ann", 60, 1), ("grant", 2, "hill", "dale", "ann", 50, 1),
                ("grant", 3, "dale", "fen", "bob", 40, 1)]
        court = Court(100, 1, rows)
        self.assertEqual(bonds(court, 2), [("ann", "", 60, False)])
        self.assertEqual(bonds(court, 3), [("ann", "", 60, False), ("bob", "ann", 40, False)])
        self.assertEqual(great(court, 3), 101)
        for man in ("", "ann", "bob", "cat"):
            self.assertEqual(weight(court, 3, man, man), 0)

    def test_those_two_steps_up_are_not_bound(self):
        court = Court(100, 1, ROWS + [("grant", 3, "dale", "fen", "cat", 5, 1)])
        self.assertEqual([four for four in bonds(court, 3) if four[0] == "cat"], [("cat", "bob", 5, False)])
        self.assertEqual(weight(court, 3, "cat", "ann"), 0)
        self.assertEqual(weight(court, 3, "cat", "bob"), 5)


    def test_an_estate_without_acres(self):
        # All acres of the hill are parted off; ann holds it still.
        rows = [("grant", 1, "", "hill", "ann", 60, 12), ("part", 2, "hill", "dale", "bob", 60)]
        court = Court(100, 1, rows + [("liege", 4, "ann", "")])
        self.assertEqual(bonds(court, 2), [("ann", "", 0, False), ("bob", "", 60, False)])
        self.assertEqual((great(court, 2), weight(court, 2, "ann", ""), weight(court, 2, "", "bob")), (61, 0, 60))
        self.assertEqual(bonds(court, 4), [("ann", "", 0, True), ("bob", "", 60, False)])
        self.assertEqual((great(court, 4), weight(court, 4, "ann", ""), weight(court, 4, "", "bob")), (61, 61, 60))


class Lieges(unittest.TestCase):
    def test_before_the_day_on_it_and_behind(self):
        court = Court(100, 1, EACH_OF_THE_OTHER + [("liege", 5, "bob", "ann"), ("liege", 8, "bob", "")])
        for day, of_ann, of_crown in ((4, False, False), (5, True, False), (6, True, False), (7, True, False),
                                      (8, False, True), (9, False, True), (9999, False, True)):
            self.assertEqual(bonds(court, day), [("ann", "", 60, False), ("ann", "bob", 7, False),
                                                 ("bob", "", 30, of_crown), ("bob", "ann", 20, of_ann)])
        self.assertEqual([great(court, day) for day in (4, 5, 8)], [118, 98, 88])
        self.assertEqual([weight(court, day, "bob", "ann") for day in (4, 5, 8)], [27, 105, 27])
        self.assertEqual([weight(court, day, "ann", "bob") for day in (4, 5, 8)], [27, 105, 27])
        self.assertEqual([weight(court, day, "bob", "") for day in (4, 5, 8)], [30, 30, 88])

    def test_both_ways(self):
        court = Court(100, 1, EACH_OF_THE_OTHER + [("liege", 5, "bob", "ann"), ("liege", 5, "ann", "bob")])
        self.assertEqual(bonds(court, 5), [("ann", "", 60, False), ("ann", "bob", 7, True), ("bob", "", 30, False),
                                           ("bob", "ann", 20, True)])
        self.assertEqual(great(court, 5), 91)
        self.assertEqual(weight(court, 5, "ann", "bob"), 182)
        self.assertEqual(weight(court, 5, "bob", "ann"), 182)

    def test_one_liege_of_whom_nothing_is_held_any_more(self):
        court = Court(100, 1, ROWS + [("liege", 5, "bob", "ann"), ("surrender", 6, "dale")])
        self.assertEqual(bonds(court, 6), [("ann", "", 60, False), ("bob", "", 30, False)])
        self.assertEqual(great(court, 6), 91)
        self.assertEqual(weight(court, 6, "bob", "ann"), 0)

    def test_held_of_the_liege_lord_again(self):
        court = Court(100, 1, ROWS + [("liege", 5, "bob", "ann"), ("surrender", 6, "dale"),
                                      ("grant", 7, "hill", "fen", "bob", 3, 1)])
        self.assertEqual(bonds(court, 7), [("ann", "", 60, False), ("bob", "", 30, False), ("bob", "ann", 3, True)])

    def test_all_liege(self):
        court = Court(100, 1, ROWS[:2] + [("liege", 5, "bob", ""), ("liege", 5, "ann", "")])
        self.assertEqual(bonds(court, 5), [("ann", "", 60, True), ("bob", "", 30, True)])
        self.assertEqual(great(court, 5), 1)
        self.assertEqual(weight(court, 5, "", "ann"), 1)

    def test_the_heir_is_not_the_liege_man(self):
        court = Court(100, 1, ROWS + [("liege", 5, "bob", "ann"), ("heir", 5, "bob", "cat"), ("death", 6, "bob")])
        self.assertEqual(bonds(court, 6), [("ann", "", 60, False), ("cat", "", 30, False), ("cat", "ann", 20, False)])

    def test_strangers(self):
        court = Court(100, 1, list(ROWS))
        for one, other in (("cat", "ann"), ("ann", "cat"), ("cat", "dan"), ("cat", "cat"), ("hill", "")):
            self.assertEqual(weight(court, 3, one, other), 0)


class ManyCharters(unittest.TestCase):
    def as_the_slow_telling(self, acres, rows, days):
        court = Court(acres, 1, list(rows))
        for day in days:
            slow = SlowQuarrels(acres, rows, day)
            self.assertEqual(bonds(court, day), slow.bonds)
            self.assertEqual(great(court, day), slow.great)
            for one in [""] + MEN:
                for other in [""] + MEN:
                    self.assertEqual(weight(court, day, one, other), slow.weight(one, other))
        return bonds(court, days[-1])

    def test_as_the_slow_telling(self):
        lieges = 0
        for seed in range(12):
            self.as_the_slow_telling(600, lively_rows(Dice(seed), 600, MEN), (0, 4, 7, 8, 10, 12, 9999))
            fours = self.as_the_slow_telling(9000, some_manors(Dice(seed), 9000, MEN, list("abcdefghijkl"), 6), (3, 11, 18))
            lieges += sum(four[3] for four in fours)
        self.assertGreater(lieges, 10)

    def test_the_order_of_entering_says_nothing(self):
        for seed in range(5):
            rows = lively_rows(Dice(50 + seed), 600, MEN)
            court = Court(600, 1, rows)
            for turned in (rows[::-1], sorted(rows), rows[5:] + rows[:5]):
                for day in (0, 5, 9, 12):
                    self.assertEqual(bonds(Court(600, 1, turned), day), bonds(court, day))

    def test_kinds(self):
        court = Court(100, 1, EACH_OF_THE_OTHER + [("liege", 5, "bob", "ann")])
        row = bonds(court, 5)
        self.assertIs(type(row), list)
        for four in row:
            self.assertIs(type(four), tuple)
            self.assertEqual([type(piece) for piece in four], [str, str, int, bool])
        self.assertIs(type(great(court, 5)), int)
        self.assertIs(type(weight(court, 5, "ann", "ann")), int)

    def test_told_lists_and_lands_may_be_changed(self):
        one, other = Court(100, 1, list(EACH_OF_THE_OTHER)), Court(50, 2, [("grant", 2, "", "hill", "ann", 9, 9)])
        first = [bonds(court, 5) for court in (one, other)]
        self.assertNotEqual(first[0], first[1])
        for turn in range(3):
            for at, court in enumerate((one, other)):
                self.assertEqual(bonds(court, 5), first[at])
                self.assertEqual((great(court, 5), weight(court, 5, "", "ann")), [(118, 60), (10, 9)][at])
                bonds(court, 5).clear()
                court.land(5).convey("hill", "eve")
                court.land(5).fall_back("hill")


if __name__ == "__main__":
    unittest.main()
