import time
import unittest
from fractions import Fraction

from manrent.court import Court
from manrent.dues import bears, gets, gives, keeps, owed, passes
from manrent.parts import minus, plus, total
from oracle import Dice, SlowDays, lively_rows, pair, picture

NOUGHT = (0, 1)
# Ann holds the hill (of 60 acres) of the crown, bob the dale (20 of these) of ann and the moor (30) of the crown.
ROWS = [
    ("grant", 10, "", "hill", "ann", 60, 12),
    ("grant", 10, "", "moor", "bob", 30, 4),
    ("grant", 20, "hill", "dale", "bob", 20, 3),
]
FOLK = ["", "ann", "bob", "cat", "dan", "eve"]
STRETCHES = [(start, end) for start in range(15) for end in range(start, 15)]


def whole(number):
    return (number, 1)


def told(court, start, end, folk=FOLK):
    """All that is due of the folk in a stretch."""
    return {man: (gets(court, man, start, end), gives(court, man, start, end), bears(court, man, start, end),
                  keeps(court, man, start, end)) for man in folk}


class Stretches(unittest.TestCase):
    def setUp(self):
        self.court = Court(100, 2, list(ROWS))

    def test_no_day(self):
        for day in (0, 1, 9, 10, 11, 20, 21, 9999, 10000):
            self.assertEqual(told(self.court, day, day), {man: (NOUGHT,) * 4 for man in FOLK})
            self.assertEqual(passes(self.court, day, day), [])
            for estate in ("", "hill", "moor", "dale", "glen"):
                self.assertEqual(owed(self.court, estate, day, day), NOUGHT)

    def test_one_day(self):
        for day, hill, dale in ((0, 0, 0), (9, 0, 0), (10, 12, 0), (11, 12, 0), (19, 12, 0), (20, 12, 3), (21, 12, 3),
                                (9999, 12, 3)):
            self.assertEqual(owed(self.court, "hill", day, day + 1), whole(hill))
            self.assertEqual(owed(self.court, "dale", day, day + 1), whole(dale))
        self.assertEqual(told(self.court, 9, 10)[""], (NOUGHT, NOUGHT, whole(200), whole(200)))
        self.assertEqual(told(self.court, 9, 10)["ann"], (NOUGHT,) * 4)
        self.assertEqual(told(self.court, 10, 11), {
            "": (whole(16), NOUGHT, whole(20), whole(36)),
            "ann": (NOUGHT, whole(12), whole(120), whole(108)),
            "bob": (NOUGHT, whole(4), whole(60), whole(56)),
            "cat": (NOUGHT,) * 4, "dan": (NOUGHT,) * 4, "eve": (NOUGHT,) * 4,
        })
        self.assertEqual(told(self.court, 20, 21), {
            "": (whole(16), NOUGHT, whole(20), whole(36)),
            "ann": (whole(3), whole(12), whole(80), whole(71)),
            "bob": (NOUGHT, whole(7), whole(100), whole(93)),
            "cat": (NOUGHT,) * 4, "dan": (NOUGHT,) * 4, "eve": (NOUGHT,) * 4,
        })
        self.assertEqual(passes(self.court, 9, 10), [])
        self.assertEqual(passes(self.court, 10, 11), [("ann", "", whole(12)), ("bob", "", whole(4))])
        self.assertEqual(passes(self.court, 20, 21),
                         [("ann", "", whole(12)), ("bob", "", whole(4)), ("bob", "ann", whole(3))])

    def test_all_days(self):
        self.assertEqual(owed(self.court, "hill", 0, 10000), whole(12 * 9990))
        self.assertEqual(owed(self.court, "moor", 0, 10000), whole(4 * 9990))
        self.assertEqual(owed(self.court, "dale", 0, 10000), whole(3 * 9980))
        self.assertEqual(gets(self.court, "", 0, 10000), whole(16 * 9990))
        self.assertEqual(gets(self.court, "ann", 0, 10000), whole(3 * 9980))
        self.assertEqual(gives(self.court, "ann", 0, 10000), whole(12 * 9990))
        self.assertEqual(bears(self.court, "ann", 0, 10000), whole(2 * (60 * 10 + 40 * 9980)))
        self.assertEqual(keeps(self.court, "bob", 0, 10000), whole(2 * (30 * 10 + 50 * 9980) - 4 * 9990 - 3 * 9980))
        self.assertEqual(passes(self.court, 0, 10000), [
            ("ann", "", whole(12 * 9990)), ("bob", "", whole(4 * 9990)), ("bob", "ann", whole(3 * 9980))])

    def test_ends_at_and_beside_the_days_of_charters(self):
        for start, end, days in ((10, 20, 10), (9, 20, 10), (11, 20, 9), (10, 19, 9), (10, 21, 11), (9, 21, 11),
                                 (12, 18, 6), (0, 10, 0), (0, 11, 1), (19, 21, 2), (20, 30, 10), (5, 40, 30)):
            self.assertEqual(owed(self.court, "hill", start, end), whole(12 * days))
            self.assertEqual(gives(self.court, "ann", start, end), whole(12 * days))

    def test_a_charter_of_the_last_day(self):
        court = Court(10, 1, [("grant", 9999, "", "hill", "ann", 4, 3), ("grant", 0, "", "moor", "ann", 4, 1)])
        self.assertEqual(owed(court, "hill", 0, 9999), NOUGHT)
        self.assertEqual(owed(court, "hill", 0, 10000), whole(3))
        self.assertEqual(owed(court, "hill", 9999, 10000), whole(3))
        self.assertEqual(owed(court, "moor", 0, 10000), whole(10000))
        self.assertEqual(keeps(court, "ann", 0, 10000), whole(4 * 10000 + 4 - 10000 - 3))

    def test_estates_that_were_there_for_a_part_of_the_stretch(self):
        court = Court(100, 2, ROWS + [("surrender", 30, "dale"), ("surrender", 40, "hill")])
        for start, end, days in ((0, 100, 10), (20, 30, 10), (19, 31, 10), (21, 29, 8), (25, 100, 5), (0, 25, 5),
                                 (30, 100, 0), (29, 30, 1), (0, 20, 0)):
            self.assertEqual(owed(court, "dale", start, end), whole(3 * days))
            self.assertEqual(gets(court, "ann", start, end), whole(3 * days))
        self.assertEqual(owed(court, "hill", 0, 10000), whole(12 * 30))

    def test_estates_that_were_never_there(self):
        court = Court(100, 2, ROWS + [("grant", 30, "", "fen", "cat", 99, 7)])
        for estate in ("glen", "fen", "ann", ""):
            for start, end in ((0, 10000), (10, 11), (30, 31), (7, 7)):
                self.assertEqual(owed(court, estate, start, end), NOUGHT)
        self.assertEqual(gives(court, "cat", 0, 10000), NOUGHT)


class Services(unittest.TestCase):
    def test_parted_ones_in_lowest_terms(self):
        rows = [("grant", 0, "", "hill", "ann", 60, 7), ("part", 10, "hill", "dale", "bob", 25),
                ("part", 20, "dale", "glen", "cat", 10)]
        court = Court(100, 1, rows)
        self.assertEqual(owed(court, "hill", 9, 10), (7, 1))
        self.assertEqual(owed(court, "dale", 10, 11), (35, 12))
        self.assertEqual(owed(court, "hill", 10, 11), (49, 12))
        self.assertEqual(owed(court, "dale", 20, 21), (7, 4))
        self.assertEqual(owed(court, "glen", 20, 21), (7, 6))
        self.assertEqual(owed(court, "glen", 20, 23), (7, 2))
        self.assertEqual(owed(court, "glen", 20, 26), (7, 1))
        self.assertEqual(owed(court, "dale", 10, 21), pair(Fraction(350, 12) + Fraction(7, 4)))
        self.assertEqual(gets(court, "", 20, 21), (7, 1))
        self.assertEqual(keeps(court, "cat", 20, 21), (53, 6))
        self.assertEqual(keeps(court, "cat", 20, 22), (53, 3))
        self.assertEqual(passes(court, 20, 21), [("ann", "", (49, 12)), ("bob", "", (7, 4)), ("cat", "", (7, 6))])
        self.assertEqual(passes(court, 0, 10000), [
            ("ann", "", pair(70 + Fraction(49, 12) * 9990)),
            ("bob", "", pair(Fraction(35, 12) * 10 + Fraction(7, 4) * 9980)),
            ("cat", "", pair(Fraction(7, 6) * 9980))])

    def test_services_of_one_man_that_make_wholes(self):
        rows = [("grant", 0, "", "hill", "ann", 6, 1), ("part", 1, "hill", "dale", "ann", 2),
                ("part", 2, "hill", "glen", "ann", 3)]
        court = Court(10, 0, rows)
        self.assertEqual([owed(court, name, 2, 3) for name in ("hill", "dale", "glen")], [(1, 6), (1, 3), (1, 2)])
        self.assertEqual(gives(court, "ann", 2, 3), (1, 1))
        self.assertEqual(keeps(court, "ann", 2, 3), (-1, 1))
        self.assertEqual(passes(court, 2, 3), [("ann", "", (1, 1))])

    def test_a_man_who_is_his_own_lord(self):
        rows = [("grant", 0, "", "hill", "ann", 60, 9), ("grant", 5, "hill", "dale", "ann", 20, 4)]
        court = Court(100, 1, rows)
        self.assertEqual(gets(court, "ann", 0, 10), whole(20))
        self.assertEqual(gives(court, "ann", 0, 10), whole(90 + 20))
        self.assertEqual(bears(court, "ann", 0, 10), whole(600))
        self.assertEqual(keeps(court, "ann", 0, 10), whole(600 - 90))
        self.assertEqual(passes(court, 0, 10), [("ann", "", whole(90)), ("ann", "ann", whole(20))])

    def test_two_who_hold_of_one_another(self):
        rows = [("grant", 0, "", "hill", "ann", 60, 9), ("grant", 0, "hill", "moor", "bob", 30, 4),
                ("grant", 0, "moor", "zoar", "ann", 10, 2)]
        court = Court(100, 1, rows)
        self.assertEqual(passes(court, 0, 3), [("ann", "", whole(27)), ("ann", "bob", whole(6)), ("bob", "ann", whole(12))])
        self.assertEqual(gets(court, "ann", 0, 3), whole(12))
        self.assertEqual(gives(court, "ann", 0, 3), whole(33))

    def test_services_of_nought(self):
        court = Court(100, 1, [("grant", 0, "", "hill", "ann", 60, 0), ("grant", 4, "hill", "dale", "bob", 60, 0)])
        self.assertEqual(passes(court, 0, 10000), [])
        self.assertEqual(owed(court, "hill", 0, 10000), NOUGHT)
        self.assertEqual(keeps(court, "ann", 0, 10000), whole(240))

    def test_the_greatest_service(self):
        court = Court(9999, 99, [("grant", 0, "", "hill", "ann", 9999, 9999)])
        self.assertEqual(owed(court, "hill", 0, 10000), whole(99990000))
        self.assertEqual(bears(court, "ann", 0, 10000), whole(9999 * 99 * 10000))
        self.assertEqual(keeps(court, "ann", 0, 10000), whole(9999 * 98 * 10000))

    def test_holders_that_change(self):
        rows = ROWS + [("convey", 25, "hill", "cat"), ("heir", 1, "bob", "ann"), ("death", 28, "bob")]
        court = Court(100, 2, rows)
        self.assertEqual(passes(court, 20, 30), [
            ("ann", "", whole(12 * 5 + 4 * 2)), ("ann", "cat", whole(3 * 2)), ("bob", "", whole(4 * 8)),
            ("bob", "ann", whole(3 * 5)), ("bob", "cat", whole(3 * 3)), ("cat", "", whole(12 * 5))])
        self.assertEqual(gets(court, "cat", 20, 30), whole(15))
        self.assertEqual(gets(court, "ann", 20, 30), whole(15))
        self.assertEqual(owed(court, "dale", 20, 30), whole(30))


class Men(unittest.TestCase):
    def test_one_who_holds_nothing(self):
        court = Court(100, 2, list(ROWS))
        for man in ("cat", "hill", "zzzzzzzz"):
            self.assertEqual(told(court, 0, 10000, [man]), {man: (NOUGHT,) * 4})

    def test_the_crown(self):
        court = Court(100, 2, list(ROWS))
        self.assertEqual(gives(court, "", 0, 10000), NOUGHT)
        self.assertEqual(gets(court, "", 10, 20), whole(160))
        self.assertEqual(bears(court, "", 5, 15), whole(200 * 5 + 20 * 5))
        self.assertEqual(keeps(court, "", 5, 15), whole(200 * 5 + 20 * 5 + 16 * 5))
        self.assertEqual(keeps(Court(9999, 99, []), "", 0, 10000), whole(9999 * 99 * 10000))

    def test_what_is_kept_below_nought(self):
        rows = [("grant", 0, "", "hill", "ann", 10, 50), ("part", 2, "hill", "dale", "bob", 3)]
        court = Court(100, 1, rows)
        self.assertEqual(keeps(court, "ann", 0, 2), whole(-80))
        self.assertEqual(keeps(court, "ann", 0, 3), whole(-108))
        self.assertEqual(keeps(court, "bob", 0, 3), whole(-12))
        court = Court(7, 0, [("grant", 0, "", "hill", "ann", 7, 1), ("part", 0, "hill", "dale", "bob", 3)])
        self.assertEqual(keeps(court, "bob", 0, 2), (-6, 7))
        self.assertEqual(keeps(court, "", 0, 2), (2, 1))

    def test_coins(self):
        for coins in (0, 1, 99):
            court = Court(100, coins, list(ROWS))
            self.assertEqual(bears(court, "ann", 10, 20), whole(600 * coins))
            self.assertEqual(keeps(court, "ann", 10, 20), whole(600 * coins - 120))
            self.assertEqual(owed(court, "hill", 10, 20), whole(120))


class Kinds(unittest.TestCase):
    def test_lists_and_tuples(self):
        court = Court(100, 2, list(ROWS))
        for value in (owed(court, "hill", 0, 30), gets(court, "ann", 0, 30), gives(court, "ann", 0, 30),
                      bears(court, "ann", 0, 30), keeps(court, "ann", 0, 30), keeps(court, "cat", 0, 30)):
            self.assertIs(type(value), tuple)
            self.assertEqual([type(piece) for piece in value], [int, int])
        row = passes(court, 0, 30)
        self.assertIs(type(row), list)
        for triple in row:
            self.assertIs(type(triple), tuple)
            self.assertEqual([type(piece) for piece in triple], [str, str, tuple])

    def test_told_lists_and_lands_may_be_changed(self):
        court = Court(100, 2, list(ROWS))
        first, folk = passes(court, 0, 30), told(court, 0, 30)
        passes(court, 0, 30).clear()
        passes(court, 0, 30).append(("eve", "eve", (1, 1)))
        court.spells().clear()
        for day in (0, 10, 20, 30):
            land = court.land(day)
            land.grant("", "new", "eve", 5, 5)
            if land.there("hill"):
                land.convey("hill", "eve")
        self.assertEqual(passes(court, 0, 30), first)
        self.assertEqual(told(court, 0, 30), folk)
        self.assertEqual(owed(court, "new", 0, 30), NOUGHT)

    def test_two_courts_by_turns(self):
        one = Court(100, 2, list(ROWS))
        other = Court(50, 9, [("grant", 3, "", "hill", "ann", 20, 5), ("part", 12, "hill", "dale", "cat", 15)])
        first = [(told(court, 0, 30), passes(court, 0, 30), owed(court, "hill", 0, 30), owed(court, "dale", 0, 30))
                 for court in (one, other)]
        self.assertNotEqual(first[0], first[1])
        for turn in range(3):
            for at, court in enumerate((one, other)):
                self.assertEqual((told(court, 0, 30), passes(court, 0, 30), owed(court, "hill", 0, 30),
                                  owed(court, "dale", 0, 30)), first[at])
                court.land(12).fall_back("hill")
                passes(court, 5, 25).clear()


class ManyCharters(unittest.TestCase):
    """Against the slow telling, and against what must come out together."""

    def courts(self, seeds):
        for seed in seeds:
            dice = Dice(seed)
            rows = lively_rows(dice, 600, FOLK[1:])
            coins = dice.of([0, 1, 7, 99])
            yield Court(600, coins, list(rows)), SlowDays(600, coins, rows, 14), rows, coins

    def test_as_the_slow_telling(self):
        for court, slow, rows, coins in self.courts(range(12)):
            for start, end in STRETCHES[::7]:
                self.assertEqual(passes(court, start, end), slow.passes(start, end))
                for man in FOLK:
                    self.assertEqual(gets(court, man, start, end), pair(slow.gets(man, start, end)))
                    self.assertEqual(gives(court, man, start, end), pair(slow.gives(man, start, end)))
                    self.assertEqual(bears(court, man, start, end), pair(slow.bears(man, start, end)))
                    self.assertEqual(keeps(court, man, start, end), pair(slow.keeps(man, start, end)))
                for estate in [""] + list("abcdefghijklm"):
                    self.assertEqual(owed(court, estate, start, end), pair(slow.owed(estate, start, end)))

    def test_what_comes_out_together(self):
        to_themselves = 0
        for court, slow, rows, coins in self.courts(range(100, 115)):
            for start, end in STRETCHES[::9] + [(0, 10000), (12, 10000), (9999, 10000)]:
                days = end - start
                self.assertEqual(total([keeps(court, man, start, end) for man in FOLK]), whole(600 * coins * days))
                self.assertEqual(total([bears(court, man, start, end) for man in FOLK]), whole(600 * coins * days))
                got = total([gets(court, man, start, end) for man in FOLK])
                self.assertEqual(got, total([gives(court, man, start, end) for man in FOLK]))
                row = passes(court, start, end)
                self.assertEqual(got, total([many for giver, taker, many in row]))
                self.assertEqual(got, total([owed(court, name, start, end) for name in "abcdefghijkl"]))
                self.assertEqual(gives(court, "", start, end), NOUGHT)
                self.assertEqual(row, sorted(row))
                self.assertEqual(len(row), len({triple[:2] for triple in row}))
                self.assertTrue(all(many[0] > 0 for giver, taker, many in row))
                to_themselves += sum(giver == taker for giver, taker, many in row)
                for man in FOLK:
                    self.assertEqual(gives(court, man, start, end), total([row[2] for row in row if row[0] == man]))
                    self.assertEqual(gets(court, man, start, end), total([row[2] for row in row if row[1] == man]))
        self.assertGreater(to_themselves, 50)

    def test_a_stretch_cut_in_two(self):
        for court, slow, rows, coins in self.courts(range(200, 206)):
            for start, cut, end in ((0, 3, 10), (0, 0, 14), (2, 6, 6), (5, 6, 7), (0, 12, 10000), (4, 9999, 10000)):
                for man in FOLK:
                    for due in (gets, gives, bears, keeps):
                        self.assertEqual(plus(due(court, man, start, cut), due(court, man, cut, end)),
                                         due(court, man, start, end))
                for estate in "abcdefghijkl":
                    self.assertEqual(plus(owed(court, estate, start, cut), owed(court, estate, cut, end)),
                                     owed(court, estate, start, end))

    def test_the_order_of_entering_says_nothing(self):
        for court, slow, rows, coins in self.courts(range(300, 306)):
            for turned in (rows[::-1], rows[9:] + rows[:9], sorted(rows)):
                other = Court(600, coins, turned)
                for start, end in ((0, 14), (3, 8), (0, 10000)):
                    self.assertEqual(told(other, start, end), told(court, start, end))
                    self.assertEqual(passes(other, start, end), passes(court, start, end))

    def test_how_long_does_not_hang_on_the_numbers(self):
        names = [sign + other for sign in "abcdefghijkl" for other in "abcdefghijkl"]
        rows = [("grant", 60 * at, "", name, "m" + name, 9 + at % 50, 9999 - at) for at, name in enumerate(names)]
        rows += [("part", 60 * at + 30, name, "x" + name, "n" + name, 1 + at % 7) for at, name in enumerate(names)]
        court = Court(9999, 99, rows)
        begin = time.process_time()
        row = passes(court, 0, 10000)
        self.assertEqual(len(row), 288)
        self.assertEqual(total([triple[2] for triple in row]), gets(court, "", 0, 10000))
        self.assertEqual(keeps(court, "", 0, 10000), plus(bears(court, "", 0, 10000), gets(court, "", 0, 10000)))
        self.assertLess(time.process_time() - begin, 20)


class OneCharterMore(unittest.TestCase):
    """With and without one charter more behind all others."""

    def setUp(self):
        self.dice = Dice(77)
        self.cases = []
        for seed in range(400, 412):
            rows = lively_rows(Dice(seed), 600, FOLK[1:])
            court = Court(600, 3, list(rows))
            if court.land(13).estates():
                self.cases.append((rows, court))
        self.assertGreater(len(self.cases), 10)

    def unchanged_ahead(self, court, other, day):
        self.assertEqual(told(other, 0, day), told(court, 0, day))
        self.assertEqual(passes(other, 0, day), passes(court, 0, day))

    def test_a_surrender(self):
        for rows, court in self.cases:
            for gone in court.land(13).estates():
                other = Court(600, 3, rows + [("surrender", 14, gone)])
                self.unchanged_ahead(court, other, 14)
                land, left = court.land(13), other.land(14)
                self.assertEqual(left.estates(), [name for name in land.estates() if name != gone])
                for name in left.estates():
                    self.assertEqual(left.chain(name), [step for step in land.chain(name) if step != gone])
                    self.assertEqual(left.service(name), land.service(name))
                    self.assertEqual(left.holder(name), land.holder(name))
                    self.assertEqual(owed(other, name, 14, 20), owed(court, name, 14, 20))
                self.assertEqual(owed(other, gone, 14, 20), NOUGHT)
                self.of_the_surrender(court, other, gone)

    def of_the_surrender(self, court, other, gone):
        land = court.land(13)
        man, lord = land.holder(gone), land.holder(land.lord(gone))
        # What each keeps differs by the acres, the service of the estate gone, and those of the estates under it.
        changes = {one: Fraction(0) for one in FOLK}
        borne = land.own(gone) * 3
        due = Fraction(*land.service(gone))
        under = sum((Fraction(*land.service(name)) for name in land.under(gone)), Fraction(0))
        changes[man] += due - borne - under
        changes[lord] += borne + under - due
        for one in FOLK:
            self.assertEqual(minus(keeps(other, one, 14, 15), keeps(court, one, 14, 15)), pair(changes[one]))

    def test_a_part_to_the_own_holder(self):
        seen = 0
        for rows, court in self.cases:
            land = court.land(13)
            for estate in land.estates():
                for acres in {1, land.own(estate)} - {0}:
                    row = ("part", 14, estate, "new", land.holder(estate), acres)
                    other = Court(600, 3, rows + [row])
                    if other.verdict(row) == "stands":
                        seen += 1
                        self.unchanged_ahead(court, other, 14)
                        self.assertEqual(told(other, 0, 20), told(court, 0, 20))
                        self.assertEqual(passes(other, 10, 10000), passes(court, 10, 10000))
                        self.assertEqual(plus(owed(other, estate, 14, 20), owed(other, "new", 14, 20)),
                                         owed(court, estate, 14, 20))
        self.assertGreater(seen, 40)

    def test_a_grant_and_its_surrender_on_the_next_day(self):
        seen = 0
        for rows, court in self.cases:
            land = court.land(13)
            for estate in [""] + land.estates():
                row = ("grant", 14, estate, "new", "dan", 1, 5)
                other = Court(600, 3, rows + [("surrender", 15, "new"), row])
                if other.verdict(row) == "stands":
                    seen += 1
                    self.unchanged_ahead(court, other, 14)
                    self.assertFalse(other.land(14).same(court.land(14)))
                    self.assertEqual(owed(other, "new", 0, 10000), whole(5))
                    for day in (13, 15, 16, 9999):
                        self.assertEqual(picture(other.land(day)), picture(court.land(day)))
                    for start, end in ((15, 16), (15, 20), (16, 10000)):
                        self.assertEqual(told(other, start, end), told(court, start, end))
                        self.assertEqual(passes(other, start, end), passes(court, start, end))
        self.assertGreater(seen, 40)


if __name__ == "__main__":
    unittest.main()
