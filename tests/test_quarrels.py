import time
import unittest

from manrent.bonds import great
from manrent.court import Court
from manrent.errors import NoMan, NoQuarrel
from manrent.quarrels import breaks, far, held_near, near, side, streams
from oracle import Dice, SlowQuarrels, even_manors, lively_rows, some_manors
from refusing import Refusing

MEN = ["ann", "bob", "cat", "dan", "eve", "fay"]
# Bob is bound to ann by 20 acres and to the crown by 30, cat to bob by 5.
ROWS = [
    ("grant", 1, "", "hill", "ann", 60, 12),
    ("grant", 1, "", "moor", "bob", 30, 4),
    ("grant", 2, "hill", "dale", "bob", 20, 3),
    ("grant", 3, "dale", "fen", "cat", 5, 1),
]


def pairs(folk):
    return [(one, other) for one in folk for other in folk if one != other]


class Breaks(unittest.TestCase):
    def setUp(self):
        self.court = Court(100, 1, ROWS + [("liege", 5, "cat", "bob")])

    def test_of_no_one_and_of_all(self):
        for day in (0, 2, 4, 5):
            self.assertEqual(breaks(self.court, day, []), (0, 0))
            self.assertEqual(breaks(self.court, day, self.court.land(day).folk()), (0, 0))

    def test_some(self):
        for day, siding, broken in (
                (4, [""], (0, 90)), (4, ["ann"], (0, 80)), (4, ["bob"], (0, 55)), (4, ["cat"], (0, 5)),
                (4, ["", "ann"], (0, 50)), (4, ["ann", "bob"], (0, 95)), (4, ["bob", "cat"], (0, 50)),
                (5, ["cat"], (1, 0)), (5, ["bob"], (1, 50)), (5, ["ann", "bob"], (1, 90)), (5, ["bob", "cat"], (0, 50)),
                (5, ["", "ann", "bob"], (1, 0)), (2, ["bob"], (0, 50)), (1, ["ann"], (0, 60))):
            self.assertEqual(breaks(self.court, day, siding), broken)

    def test_turned_about_and_more_than_once(self):
        for siding in (["bob", "ann"], ["ann", "bob"], ["ann", "bob", "ann"], ["bob", "bob", "ann", "bob"]):
            handed = list(siding)
            self.assertEqual(breaks(self.court, 5, handed), (1, 90))
            self.assertEqual(handed, siding)
            handed.clear()
            self.assertEqual(breaks(self.court, 5, siding), (1, 90))

    def test_the_others_break_the_same(self):
        folk = self.court.land(5).folk()
        for siding in SlowQuarrels(100, ROWS, 5).sidings("ann", "bob"):
            self.assertEqual(breaks(self.court, 5, siding), breaks(self.court, 5, [man for man in folk if man not in siding]))

    def test_kinds(self):
        told = breaks(self.court, 5, ["ann"])
        self.assertIs(type(told), tuple)
        self.assertEqual([type(piece) for piece in told], [int, int])


class Sides(unittest.TestCase):
    def test_by_acres(self):
        court = Court(100, 1, list(ROWS))
        self.assertEqual(near(court, 4, "ann", "bob"), ["", "ann"])
        self.assertEqual(far(court, 4, "ann", "bob"), ["", "ann"])
        self.assertEqual(near(court, 4, "bob", "ann"), ["bob", "cat"])
        self.assertEqual([side(court, 4, "ann", "bob", man) for man in ("", "ann", "bob", "cat")],
                         ["one", "one", "other", "other"])
        self.assertEqual([side(court, 4, "bob", "ann", man) for man in ("", "ann", "bob", "cat")],
                         ["other", "other", "one", "one"])

    def test_liege_bonds_first(self):
        court = Court(100, 1, ROWS + [("liege", 5, "bob", "ann"), ("liege", 7, "bob", "")])
        self.assertEqual(near(court, 4, "", "ann"), ["", "bob", "cat"])
        self.assertEqual(far(court, 4, "", "ann"), ["", "bob", "cat"])
        self.assertEqual(near(court, 5, "", "ann"), [""])
        self.assertEqual(far(court, 5, "", "ann"), [""])
        self.assertEqual(near(court, 7, "", "ann"), ["", "bob", "cat"])
        self.assertEqual(far(court, 7, "", "ann"), ["", "bob", "cat"])

    def test_a_liege_bond_of_few_acres_weighs_more_than_all_others(self):
        rows = [("grant", 1, "", "hill", "ann", 5000, 1), ("grant", 1, "", "moor", "bob", 4000, 1),
                ("grant", 2, "hill", "dale", "cat", 1, 1), ("grant", 2, "moor", "fen", "cat", 3999, 1)]
        court = Court(9999, 1, rows + [("liege", 3, "cat", "ann")])
        self.assertEqual(side(court, 2, "ann", "bob", "cat"), "other")
        self.assertEqual(side(court, 3, "ann", "bob", "cat"), "one")
        self.assertEqual(breaks(court, 3, near(court, 3, "ann", "bob")), (0, 3999 + 4000))

    def test_free_ones(self):
        rows = [("grant", 1, "", "hill", "ann", 30, 1), ("grant", 1, "", "moor", "bob", 30, 1),
                ("grant", 2, "hill", "dale", "cat", 7, 1), ("grant", 2, "moor", "fen", "cat", 7, 1)]
        court = Court(100, 1, rows)
        self.assertEqual(near(court, 2, "ann", "bob"), ["ann"])
        self.assertEqual(far(court, 2, "ann", "bob"), ["", "ann", "cat"])
        for man in ("", "cat"):
            self.assertEqual(side(court, 2, "ann", "bob", man), "free")
            self.assertEqual(side(court, 2, "bob", "ann", man), "free")
        self.assertEqual(held_near(court, 2, "ann", "bob", "cat", True), ["ann", "cat"])
        self.assertEqual(held_near(court, 2, "ann", "bob", "", True), ["", "ann"])
        self.assertEqual(held_near(court, 2, "ann", "bob", "cat", False), ["ann"])

    def test_a_bond_of_no_acres(self):
        rows = [("grant", 1, "", "hill", "ann", 60, 12), ("part", 2, "hill", "dale", "bob", 60), ("liege", 4, "ann", "")]
        court = Court(100, 1, rows)
        self.assertEqual((near(court, 2, "", "bob"), far(court, 2, "", "bob")), ([""], ["", "ann"]))
        self.assertEqual((near(court, 4, "", "bob"), far(court, 4, "", "bob")), (["", "ann"], ["", "ann"]))
        self.assertEqual([side(court, day, "", "bob", "ann") for day in (2, 4)], ["free", "one"])
        self.assertEqual((near(court, 2, "ann", ""), far(court, 2, "ann", "")), (["ann"], ["ann"]))
        self.assertEqual((streams(court, 2, "ann", ""), streams(court, 4, "ann", "")), ([], [("ann", "", 61)]))
        self.assertEqual((breaks(court, 2, ["ann"]), breaks(court, 4, ["ann"])), ((0, 0), (1, 0)))

    def test_two_alone(self):
        court = Court(100, 1, [("grant", 1, "", "hill", "ann", 30, 1)])
        self.assertEqual(near(court, 1, "ann", ""), ["ann"])
        self.assertEqual(far(court, 1, "", "ann"), [""])
        self.assertEqual(streams(court, 1, "ann", ""), [("ann", "", 30)])
        self.assertEqual(streams(court, 1, "", "ann"), [("", "ann", 30)])

    def test_streams_that_are_the_only_ones(self):
        court = Court(100, 1, list(ROWS))
        self.assertEqual(streams(court, 4, "cat", ""), [("bob", "", 5), ("cat", "bob", 5)])
        self.assertEqual(streams(court, 4, "ann", "bob"), [("", "bob", 30), ("ann", "", 30), ("ann", "bob", 20)])

    def test_a_way_that_must_be_sent_back(self):
        # The shortest way by abe and dov is in the way of two longer ones: what goes from abe to dov is sent back.
        rows = [("grant", 1, "", "s", "sam", 1000, 1), ("grant", 1, "", "t", "tom", 1000, 1),
                ("grant", 2, "s", "sa", "abe", 1, 1), ("grant", 3, "sa", "ad", "dov", 1, 1),
                ("grant", 2, "t", "td", "dov", 1, 1),
                ("grant", 2, "s", "sp", "pip", 1, 1), ("grant", 3, "sp", "pq", "quin", 1, 1), ("grant", 4, "pq", "qd", "dov", 1, 1),
                ("grant", 2, "t", "ty", "yan", 1, 1), ("grant", 3, "ty", "yx", "xan", 1, 1), ("grant", 4, "yx", "xa", "abe", 1, 1)]
        court, slow = Court(9999, 1, rows), SlowQuarrels(9999, rows, 5)
        self.assertEqual(streams(court, 5, "sam", "tom"), [
            ("", "tom", 1000), ("abe", "xan", 1), ("dov", "tom", 1), ("pip", "quin", 1), ("quin", "dov", 1),
            ("sam", "", 1000), ("sam", "abe", 1), ("sam", "pip", 1), ("xan", "yan", 1), ("yan", "tom", 1)])
        for one, other in pairs(["sam", "tom", "abe", "dov", "pip", "xan"]):
            row = streams(court, 5, one, other)
            self.assertEqual(slow.wrongs(row, one, other), [])
            self.assertEqual(sum(many for giver, taker, many in row if giver == one),
                             slow.weighs(slow.least(one, other)[0]))


class Held(unittest.TestCase):
    def test_none(self):
        court = Court(100, 1, list(ROWS))
        self.assertIsNone(held_near(court, 4, "ann", "bob", "ann", False))
        self.assertIsNone(held_near(court, 4, "ann", "bob", "bob", True))
        self.assertEqual(held_near(court, 4, "ann", "bob", "ann", True), ["", "ann"])
        self.assertEqual(held_near(court, 4, "ann", "bob", "bob", False), ["", "ann"])

    def test_whatever_it_costs(self):
        court = Court(100, 1, ROWS + [("liege", 5, "cat", "bob")])
        self.assertEqual(held_near(court, 5, "ann", "bob", "cat", True), ["", "ann", "cat"])
        self.assertEqual(held_near(court, 5, "ann", "bob", "", False), ["ann"])
        self.assertEqual(held_near(court, 5, "ann", "bob", "", True), ["", "ann"])
        self.assertEqual(held_near(court, 5, "ann", "bob", "cat", False), ["", "ann"])


class Refusals(Refusing):
    def test_no_man(self):
        # Cat holds nothing before day 3, dan nothing at all.
        court = Court(100, 1, ROWS + [("death", 9, "cat")])
        for day, stranger in ((2, "cat"), (4, "dan"), (4, "hill"), (9, "cat"), (0, "ann")):
            for one, other in ((stranger, ""), ("", stranger), (stranger, stranger), (stranger, "zed")):
                for deed in (near, far, streams):
                    self.refused(NoMan, deed, court, day, one, other)
                for man in (one, other, "", "bob"):
                    self.refused(NoMan, side, court, day, one, other, man)
                    for goes in (True, False):
                        self.refused(NoMan, held_near, court, day, one, other, man, goes)
        self.refused(NoMan, side, court, 4, "ann", "bob", "dan")
        for goes in (True, False):
            self.refused(NoMan, held_near, court, 4, "ann", "bob", "dan", goes)

    def test_no_quarrel(self):
        court = Court(100, 1, list(ROWS))
        for one in ("", "ann", "cat"):
            for deed in (near, far, streams):
                self.refused(NoQuarrel, deed, court, 4, one, one)
            for man in ("", "ann", "bob"):
                self.refused(NoQuarrel, side, court, 4, one, one, man)
                for goes in (True, False):
                    self.refused(NoQuarrel, held_near, court, 4, one, one, man, goes)

    def test_no_man_goes_first(self):
        court = Court(100, 1, list(ROWS))
        for one, man in (("ann", "dan"), ("", "dan"), ("dan", "ann"), ("dan", "dan")):
            self.refused(NoMan, side, court, 4, one, one, man)
            for goes in (True, False):
                self.refused(NoMan, held_near, court, 4, one, one, man, goes)
        self.refused(NoMan, near, court, 2, "cat", "cat")
        self.refused(NoQuarrel, near, court, 3, "cat", "cat")

    def test_nothing_is_changed_by_it(self):
        court = Court(100, 1, list(ROWS))
        first = [near(court, 4, "ann", "bob"), streams(court, 4, "ann", "bob")]
        self.test_no_man_goes_first()
        self.refused(NoMan, near, court, 4, "ann", "dan")
        self.refused(NoQuarrel, streams, court, 4, "ann", "ann")
        self.assertEqual([near(court, 4, "ann", "bob"), streams(court, 4, "ann", "bob")], first)


class ManyQuarrels(unittest.TestCase):
    """Against all sidings gone through one by one."""

    def cases(self, seeds):
        for seed in seeds:
            dice = Dice(seed)
            if seed % 3 == 0:
                yield 9000, even_manors(dice, MEN[:2 + seed % 5], seed % 11, seed % 7), 30
            elif seed % 2:
                men = MEN[:2 + seed % 5]
                yield 9000, some_manors(dice, 9000, men, list("abcdefghijkl")[:4 + seed % 9], 1 + seed % 6), 30
            else:
                yield 60, lively_rows(dice, 60, MEN[:2 + seed % 4]), dice.of([5, 8, 12])

    def of_one_quarrel(self, court, day, slow, one, other):
        least = slow.least(one, other)
        self.assertEqual(near(court, day, one, other), least[0])
        self.assertEqual(far(court, day, one, other), least[-1])
        for man in slow.folk:
            among = [man in siding for siding in least]
            word = "one" if all(among) else "free" if any(among) else "other"
            self.assertEqual(side(court, day, one, other, man), word)
            turned = {"one": "other", "other": "one", "free": "free"}[word]
            self.assertEqual(side(court, day, other, one, man), turned)
            for goes in (True, False):
                held = slow.least(one, other, man, goes)
                self.assertEqual(held_near(court, day, one, other, man, goes), held[0] if held else None)
        row = streams(court, day, one, other)
        self.assertEqual(slow.wrongs(row, one, other), [])
        self.assertEqual(row, sorted(row))
        worth = sum(many for giver, taker, many in row if giver == one)
        for siding in (least[0], least[-1]):
            lieges, acres = breaks(court, day, siding)
            self.assertEqual(worth, lieges * great(court, day) + acres)
        return len(least)

    def test_all_quarrels(self):
        many, ties = 0, 0
        for acres, rows, day in self.cases(range(36)):
            court, slow = Court(acres, 1, list(rows)), SlowQuarrels(acres, rows, day)
            for one, other in pairs(slow.folk):
                many += 1
                ties += self.of_one_quarrel(court, day, slow, one, other) > 1
        self.assertGreater(many, 300)
        self.assertGreater(ties, 30)

    def test_breaks_of_all_sidings(self):
        for acres, rows, day in self.cases(range(40, 50)):
            court, slow = Court(acres, 1, list(rows)), SlowQuarrels(acres, rows, day)
            for one, other in pairs(slow.folk)[:3]:
                for siding in slow.sidings(one, other):
                    self.assertEqual(breaks(court, day, siding), slow.breaks(siding))
                    self.assertEqual(breaks(court, day, siding[::-1] + siding), slow.breaks(siding))

    def test_the_order_of_entering_says_nothing(self):
        for acres, rows, day in self.cases(range(60, 66)):
            court = Court(acres, 1, list(rows))
            for turned in (rows[::-1], sorted(rows), rows[4:] + rows[:4]):
                other_court = Court(acres, 1, list(turned))
                for one, other in pairs(court.land(day).folk())[:4]:
                    for deed in (near, far, streams):
                        self.assertEqual(deed(other_court, day, one, other), deed(court, day, one, other))

    def test_twenty_four_men(self):
        men = ["m" + sign for sign in "abcdefghijklmnopqrstuvwx"]
        estates = ["e" + sign for sign in "abcdefghijklmnopqrstuvwx"]
        begin = time.process_time()
        for seed in range(4):
            dice = Dice(700 + seed)
            rows = some_manors(dice, 9999, men, estates, 24)
            court, slow = Court(9999, 1, rows), SlowQuarrels(9999, rows, 99)
            for one, other in pairs(slow.folk)[::7]:
                row = streams(court, 99, one, other)
                self.assertEqual(slow.wrongs(row, one, other), [])
                worth = sum(many for giver, taker, many in row if giver == one)
                few, many = near(court, 99, one, other), far(court, 99, one, other)
                for siding in (few, many):
                    self.assertEqual(siding, sorted(set(siding)))
                    self.assertTrue(one in siding and other not in siding)
                    self.assertEqual(slow.weighs(siding), worth)
                self.assertLessEqual(set(few), set(many))
                for man in slow.folk[::5]:
                    self.held_as_he_is(court, slow, one, other, man, worth)
        self.assertLess(time.process_time() - begin, 60)

    def held_as_he_is(self, court, slow, one, other, man, worth):
        for goes, sure in ((True, "other"), (False, "one")):
            siding = held_near(court, 99, one, other, man, goes)
            if siding is not None:
                self.assertEqual(man in siding, goes)
                dearer = side(court, 99, one, other, man) == sure
                self.assertEqual(slow.weighs(siding) > worth, dearer)
                self.assertGreaterEqual(slow.weighs(siding), worth)


class Kinds(unittest.TestCase):
    def test_lists_and_tuples(self):
        court = Court(100, 1, list(ROWS))
        for told in (near(court, 4, "ann", "bob"), far(court, 4, "ann", "bob"), held_near(court, 4, "ann", "bob", "", True)):
            self.assertIs(type(told), list)
            self.assertEqual({type(man) for man in told}, {str})
        row = streams(court, 4, "ann", "bob")
        self.assertIs(type(row), list)
        for triple in row:
            self.assertIs(type(triple), tuple)
            self.assertEqual([type(piece) for piece in triple], [str, str, int])

    def test_told_lists_and_lands_may_be_changed(self):
        one = Court(100, 1, ROWS + [("liege", 5, "cat", "bob")])
        other = Court(50, 2, [("grant", 2, "", "moor", "bob", 9, 9), ("grant", 2, "moor", "hill", "ann", 4, 9),
                              ("grant", 3, "", "dale", "cat", 4, 9)])

        def told(court):
            return [near(court, 5, "ann", "bob"), far(court, 5, "ann", "bob"), streams(court, 5, "ann", "bob"),
                    held_near(court, 5, "ann", "bob", "cat", True), breaks(court, 5, ["ann", "bob"]),
                    side(court, 5, "ann", "bob", "cat")]

        first = [told(one), told(other)]
        self.assertNotEqual(first[0], first[1])
        for turn in range(3):
            for at, court in enumerate((one, other)):
                answers = told(court)
                self.assertEqual(answers, first[at])
                for answer in answers[:4]:
                    answer.clear()
                court.land(5).fall_back("hill")
                court.land(5).convey("moor", "eve")


if __name__ == "__main__":
    unittest.main()
