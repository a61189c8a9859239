"""What holds over the whole program."""

import time
import unittest

from manrent.bonds import bonds, great, weight
from manrent.charters import check_row, judged_order
from manrent.court import Court
from manrent.desk import Desk
from manrent.dues import bears, gets, gives, keeps, owed, passes
from manrent.errors import NoEntry, NoEstate, NoForm, NoLand, NoMan, NoQuarrel, NoText, NothingThere, Twice
from manrent.land import Land
from manrent.page import read_page, read_row, shown_page, shown_row
from manrent.papers import shows, worth
from manrent.quarrels import breaks, far, held_near, near, side, streams
from manrent.roll import Roll
from oracle import Dice, lively_rows, picture, some_rows
from refusing import Refusing

MEN = ["ann", "bob", "cat", "dan"]
ROWS = [
    ("grant", 1, "", "hill", "ann", 60, 12),
    ("grant", 1, "", "moor", "bob", 30, 4),
    ("grant", 2, "hill", "dale", "bob", 20, 3),
    ("liege", 4, "bob", "ann"),
]


def court_told(court):
    """Much of what a court answers."""
    days = (0, 3, 5, 8, 10, 12, 9999)
    told = [court.acres(), court.bears(), court.verdicts(), court.spells(), passes(court, 0, 10000), passes(court, 4, 9)]
    told += [picture(court.land(day)) for day in days]
    told += [(bonds(court, day), great(court, day)) for day in days]
    told += [(due(court, man, 2, 11), court.liege(7, man), court.dead(9, man))
             for man in [""] + MEN for due in (gets, gives, keeps, bears)]
    told += [owed(court, estate, 0, 10000) for estate in "abcdefghijkl"]
    for day in days:
        folk = court.land(day).folk()
        for one, other in zip(folk, folk[1:]):
            told += [near(court, day, one, other), far(court, day, one, other), weight(court, day, one, other)]
            told += [side(court, day, one, other, man) for man in folk]
    return told


class TheSameCharters(unittest.TestCase):
    """Entered in any order, in any pieces, with takings back between."""

    def entered(self, dice, rows):
        """A roll into which the rows came by some way or other."""
        roll, left = Roll(60, 2), list(rows)
        spare = [row for row in some_rows(dice, 40, list("abcm"), MEN, 12) if row not in rows]
        while left:
            kind = dice.below(6)
            if kind == 0:
                roll.enter(left.pop(dice.below(len(left))))
            elif kind == 1:
                many = 1 + dice.below(5)
                roll.enter_all(left[:many])
                left = left[many:]
            elif kind == 2:
                roll.enter_all([spare[0], left[0]])
                roll.back()
            elif kind == 3:
                roll.strike(roll.enter(spare[1]))
            elif kind == 4:
                roll.correct(roll.enter(spare[2]), left.pop())
            elif roll.rows():
                number, row = dice.of(roll.rows())
                roll.strike(number)
                if dice.below(2):
                    roll.back()
                else:
                    left.append(row)
        return roll

    def test_tell_the_same(self):
        for seed in range(6):
            dice = Dice(900 + seed)
            rows = lively_rows(dice, 60, MEN)
            first = court_told(Court(60, 2, rows))
            for many in range(5):
                roll = self.entered(dice, rows)
                self.assertEqual(sorted(row for number, row in roll.rows()), sorted(rows))
                self.assertEqual(court_told(roll.court()), first)
                self.assertEqual(court_told(read_page(shown_page(roll)).court()), first)
                self.assertEqual(court_told(roll.twin().court()), first)
                words = dict(first[2])
                self.assertEqual([roll.charter(number) for number, row in roll.rows()],
                                 [words[row] for number, row in roll.rows()])

    def test_by_the_desk(self):
        rows = lively_rows(Dice(31), 60, MEN)
        first = court_told(Court(60, 2, rows))
        for turned in (rows, rows[::-1], sorted(rows)):
            desk = Desk(60, 2)
            for row in turned:
                desk.order("enter " + shown_row(row))
                desk.order("back")
                desk.order("again")
            self.assertEqual(court_told(desk.roll.court()), first)

    def test_courts_and_rolls_by_turns(self):
        rows = [lively_rows(Dice(seed), 60, MEN) for seed in (41, 42, 43)]
        rolls = [Roll(60, coins) for coins in (1, 2, 3)]
        for roll, its in zip(rolls, rows):
            roll.enter_all(its)
        courts = [roll.court() for roll in rolls]
        first = [court_told(court) for court in courts]
        for turn in range(2):
            for at in (2, 0, 1):
                self.assertEqual(court_told(courts[at]), first[at])
                for told in court_told(courts[at]):
                    if isinstance(told, (list, dict)):
                        told.clear()
                land = courts[at].land(8)
                for estate in land.estates():
                    land.fall_back(estate)
                rolls[at].strike(rolls[at].rows()[0][0])


class Refusals(Refusing):
    """Each refusal of each module is of its class alone, and changes nothing."""

    def refusals(self, court, roll, desk, land):
        return [
            (NoForm, check_row, ("feu", 1)), (NoForm, check_row, ("death", -1, "ann")),
            (NoLand, Land, 0), (NoLand, Court, 0, 1, []), (NoLand, Court, 1, 100, []), (NoLand, Roll, 10000, 1),
            (NoLand, Roll, 1, -1), (NoLand, Desk, 0, 0),
            (NoEstate, land.holder, "glen"), (NoEstate, land.lord, "glen"), (NoEstate, land.own, "glen"),
            (NoEstate, land.breadth, "glen"), (NoEstate, land.service, "glen"), (NoEstate, land.chain, "glen"),
            (NoEstate, land.under, "glen"), (NoEstate, court.land(0).chain, "hill"),
            (NoEntry, court.verdict, ("death", 1, "ann")), (NoEntry, court.verdict, ("feu",)),
            (NoMan, near, court, 5, "eve", "ann"), (NoMan, far, court, 5, "ann", "eve"), (NoMan, streams, court, 0, "ann", "ann"),
            (NoMan, side, court, 5, "ann", "bob", "eve"), (NoMan, side, court, 5, "ann", "ann", "eve"),
            (NoMan, held_near, court, 5, "ann", "ann", "eve", True), (NoMan, held_near, court, 5, "eve", "ann", "eve", False),
            (NoMan, worth, court, 5, "eve", "eve", []), (NoMan, shows, court, 5, "eve", "ann", [], []),
            (NoQuarrel, near, court, 5, "", ""), (NoQuarrel, far, court, 5, "ann", "ann"), (NoQuarrel, streams, court, 5, "bob", "bob"),
            (NoQuarrel, side, court, 5, "ann", "ann", "bob"), (NoQuarrel, held_near, court, 5, "ann", "ann", "ann", False),
            (NoQuarrel, worth, court, 5, "", "", []), (NoQuarrel, shows, court, 5, "", "", [], []),
            (NoForm, roll.enter, ("death", 1)), (NoForm, roll.enter_all, [ROWS[0], ("death", 1)]), (NoForm, roll.correct, 99, ("feu",)),
            (NoEntry, roll.strike, 99), (NoEntry, roll.correct, 99, ROWS[0]), (NoEntry, roll.charter, 99),
            (Twice, roll.enter, ROWS[0]), (Twice, roll.enter_all, [("death", 1, "eve"), ROWS[1]]), (Twice, roll.correct, 1, ROWS[1]),
            (NothingThere, roll.again), (NothingThere, Roll(1, 1).back),
            (NoText, read_row, "feu"), (NoText, read_row, "heir 1 ann ann"), (NoText, read_page, ""), (NoText, read_page, "land 0 1\n"),
            (NoText, desk.order, ""), (NoText, desk.order, "enter feu"), (NoText, desk.order, "kept ann 2 1"),
            (NoEntry, desk.order, "strike 9"), (NoEntry, desk.order, "correct 9 death 1 ann"), (NoEntry, desk.order, "charter 9"),
            (Twice, desk.order, "enter liege 4 bob ann"), (NothingThere, desk.order, "again"), (NoEstate, desk.order, "chain 5 glen"),
            (NoMan, desk.order, "side 5 eve eve ann"), (NoQuarrel, desk.order, "side 5 ann ann bob"),
        ]

    def test_each(self):
        court, roll, desk, land = Court(100, 1, ROWS), Roll(100, 1), Desk(100, 1), Court(100, 1, ROWS).land(5)
        roll.enter_all(ROWS)
        desk.roll.enter_all(ROWS)

        def told():
            return [court_told(court), court_told(roll.court()), court_told(desk.roll.court()), shown_page(roll),
                    shown_page(desk.roll), picture(land)]

        before = told()
        for kind, deed, *things in self.refusals(court, roll, desk, land):
            with self.subTest(kind=kind.__name__, things=things):
                self.refused(kind, deed, *things)
                self.assertEqual(told(), before)
        # Each roll has the one deed that it had.
        for one in (roll, desk.roll):
            one.back()
            self.assertEqual(shown_page(one), "land 100 1\nfree 1\n")
            self.refused(NothingThere, one.back)

    def test_all_classes_are_there(self):
        kinds = {row[0] for row in self.refusals(Court(1, 1, []), Roll(1, 1), Desk(1, 1), Land(1))}
        self.assertEqual(kinds, {NoForm, NoEntry, Twice, NothingThere, NoEstate, NoMan, NoQuarrel, NoLand, NoText})


class HandedIn(unittest.TestCase):
    def test_lists_stay_and_may_be_changed(self):
        rows = list(ROWS)
        court, roll = Court(100, 1, rows), Roll(100, 1)
        numbers, order = roll.enter_all(rows), judged_order(rows)
        siding, row = near(court, 5, "ann", "bob"), streams(court, 5, "ann", "bob")
        handed = [list(siding), list(row)]
        self.assertTrue(shows(court, 5, "ann", "bob", siding, row))
        self.assertEqual(breaks(court, 5, siding), breaks(court, 5, siding[::-1]))
        self.assertEqual([siding, row], handed)
        self.assertEqual(rows, ROWS)
        first, page = court_told(court), shown_page(roll)
        for one in (rows, numbers, order, siding, row):
            one.clear()
        self.assertEqual((court_told(court), shown_page(roll)), (first, page))
        self.assertTrue(shows(court, 5, "ann", "bob", near(court, 5, "ann", "bob"), streams(court, 5, "ann", "bob")))


class GreatNumbers(unittest.TestCase):
    """How long an answer takes doesn't hang on how great acres, services and days are."""

    def test_three_hundred_rows(self):
        names = [sign + other for sign in "abcdefghijklmnopqrst" for other in "abcdefghijklm"][:250]
        # A chain of estates, each under the one ahead.
        rows = [("grant", 39 * at, lord, name, "m" + name[0], 9000 - 36 * at, 9999 - at)
                for at, (lord, name) in enumerate(zip([""] + names, names))]
        rows += [("part", 9800 + at, name, "x" + name, "n" + name[0], 1 + at) for at, name in enumerate(names[:30])]
        rows += [("liege", 9900, "m" + sign, "m" + other) for sign, other in zip("bcdefghijk", "abcdefghij")]
        begin = time.process_time()
        desk = Desk(9999, 99)
        desk.roll.enter_all(rows)
        court = desk.roll.court()
        self.assertEqual({word for row, word in court.verdicts()}, {"stands"})
        self.assertEqual(read_page(shown_page(desk.roll)).rows(), desk.roll.rows())
        self.assertEqual(desk.order("chain 9999 " + names[-1]), " ".join(names[::-1]) + " -")
        top, bottom = keeps(court, "ma", 0, 10000)
        self.assertEqual(desk.order("kept ma 0 10000"), f"{top}/{bottom}")
        self.assertIn(("ma", "ma"), [triple[:2] for triple in passes(court, 0, 10000)])
        siding, row = near(court, 9999, "", "mt"), streams(court, 9999, "", "mt")
        self.assertTrue(shows(court, 9999, "", "mt", siding, row))
        self.assertLess(time.process_time() - begin, 60)


if __name__ == "__main__":
    unittest.main()
