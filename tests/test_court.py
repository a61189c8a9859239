import itertools
import unittest

from manrent.court import Court
from manrent.errors import NoEntry, NoEstate, NoLand
from manrent.land import Land
from oracle import Dice, SlowCourt, picture, slow_spells, some_rows
from refusing import Refusing

ANN_AND_BOB = [
    ("grant", 1, "", "hill", "ann", 60, 12),
    ("grant", 1, "", "moor", "bob", 30, 4),
    ("grant", 2, "hill", "dale", "bob", 20, 3),
]


class Courts(Refusing):
    def told(self, rows, row):
        """The word of a row beside others."""
        return Court(100, 1, rows + [row]).verdict(row)


class Bounds(Courts):
    def test_acres(self):
        for acres in (0, -1, -9999, 10000, 123456):
            self.refused(NoLand, Court, acres, 1, [])
        for acres in (1, 2, 9998, 9999):
            self.assertEqual(Court(acres, 1, []).acres(), acres)

    def test_bears(self):
        for bears in (-1, -99, 100, 12345):
            self.refused(NoLand, Court, 10, bears, [])
        for bears in (0, 1, 98, 99):
            self.assertEqual(Court(10, bears, []).bears(), bears)

    def test_both(self):
        self.refused(NoLand, Court, 0, 100, [])
        self.refused(NoLand, Court, 0, -1, list(ANN_AND_BOB))
        court = Court(9999, 0, [])
        self.assertEqual((court.acres(), court.bears()), (9999, 0))

    def test_without_charters(self):
        court = Court(12, 3, [])
        self.assertEqual(court.verdicts(), [])
        self.assertEqual(court.spells(), [(0, None)])
        for day in (0, 1, 9999):
            self.assertIsInstance(court.land(day), Land)
            self.assertTrue(court.land(day).same(Land(12)))
            self.assertIs(court.dead(day, "ann"), False)
            self.assertIsNone(court.liege(day, "ann"))


class Words(Courts):
    """Of each kind a charter that stands, and one void by each word."""

    def test_grant(self):
        for acres in (1, 9, 10):
            self.assertEqual(self.told(ANN_AND_BOB, ("grant", 3, "", "fen", "cat", acres, 1)), "stands")
        self.assertEqual(self.told(ANN_AND_BOB, ("grant", 3, "", "fen", "cat", 11, 1)), "acres")
        self.assertEqual(self.told(ANN_AND_BOB, ("grant", 3, "hill", "fen", "cat", 40, 1)), "stands")
        self.assertEqual(self.told(ANN_AND_BOB, ("grant", 3, "hill", "fen", "cat", 41, 1)), "acres")
        self.assertEqual(self.told(ANN_AND_BOB, ("grant", 3, "glen", "fen", "cat", 1, 1)), "nowhere")
        self.assertEqual(self.told(ANN_AND_BOB, ("grant", 0, "hill", "fen", "cat", 1, 1)), "nowhere")
        self.assertEqual(self.told(ANN_AND_BOB, ("grant", 3, "hill", "moor", "cat", 1, 1)), "taken")
        self.assertEqual(self.told(ANN_AND_BOB, ("grant", 3, "hill", "hill", "cat", 1, 1)), "taken")
        self.assertEqual(self.told(ANN_AND_BOB + [("death", 2, "cat")], ("grant", 3, "", "fen", "cat", 1, 1)), "dead")

    def test_grant_where_two_words_are_due(self):
        rows = ANN_AND_BOB + [("death", 2, "cat")]
        self.assertEqual(self.told(rows, ("grant", 3, "glen", "moor", "cat", 99, 1)), "nowhere")
        self.assertEqual(self.told(rows, ("grant", 3, "glen", "fen", "cat", 99, 1)), "nowhere")
        self.assertEqual(self.told(rows, ("grant", 3, "glen", "fen", "bob", 9999, 1)), "nowhere")
        self.assertEqual(self.told(rows, ("grant", 3, "hill", "moor", "cat", 99, 1)), "taken")
        self.assertEqual(self.told(rows, ("grant", 3, "hill", "moor", "bob", 99, 1)), "taken")
        self.assertEqual(self.told(rows, ("grant", 3, "hill", "fen", "cat", 99, 1)), "dead")

    def test_part(self):
        rows = ANN_AND_BOB + [("death", 2, "cat")]
        for acres, word in ((1, "stands"), (40, "stands"), (41, "acres"), (60, "acres")):
            self.assertEqual(self.told(rows, ("part", 3, "hill", "fen", "dan", acres)), word)
        self.assertEqual(self.told(rows, ("part", 3, "glen", "fen", "dan", 1)), "nowhere")
        self.assertEqual(self.told(rows, ("part", 0, "hill", "fen", "dan", 1)), "nowhere")
        self.assertEqual(self.told(rows, ("part", 3, "hill", "dale", "dan", 1)), "taken")
        self.assertEqual(self.told(rows, ("part", 3, "hill", "hill", "dan", 1)), "taken")
        self.assertEqual(self.told(rows, ("part", 3, "hill", "fen", "cat", 1)), "dead")

    def test_part_where_two_words_are_due(self):
        rows = ANN_AND_BOB + [("death", 2, "cat")]
        self.assertEqual(self.told(rows, ("part", 3, "glen", "dale", "cat", 99)), "nowhere")
        self.assertEqual(self.told(rows, ("part", 3, "glen", "fen", "cat", 99)), "nowhere")
        self.assertEqual(self.told(rows, ("part", 3, "hill", "dale", "cat", 99)), "taken")
        self.assertEqual(self.told(rows, ("part", 3, "hill", "dale", "dan", 99)), "taken")
        self.assertEqual(self.told(rows, ("part", 3, "hill", "fen", "cat", 99)), "dead")

    def test_convey(self):
        rows = ANN_AND_BOB + [("death", 2, "cat")]
        for man in ("ann", "bob", "dan", "hill"):
            self.assertEqual(self.told(rows, ("convey", 3, "hill", man)), "stands")
        self.assertEqual(self.told(rows, ("convey", 3, "glen", "dan")), "nowhere")
        self.assertEqual(self.told(rows, ("convey", 0, "hill", "dan")), "nowhere")
        self.assertEqual(self.told(rows, ("convey", 3, "hill", "cat")), "dead")
        self.assertEqual(self.told(rows, ("convey", 1, "hill", "cat")), "stands")
        self.assertEqual(self.told(rows, ("convey", 3, "glen", "cat")), "nowhere")

    def test_surrender(self):
        self.assertEqual(self.told(ANN_AND_BOB, ("surrender", 3, "hill")), "stands")
        self.assertEqual(self.told(ANN_AND_BOB, ("surrender", 1, "hill")), "stands")
        self.assertEqual(self.told(ANN_AND_BOB, ("surrender", 0, "hill")), "nowhere")
        self.assertEqual(self.told(ANN_AND_BOB, ("surrender", 3, "ann")), "nowhere")
        self.assertEqual(self.told(ANN_AND_BOB + [("surrender", 3, "hill")], ("surrender", 4, "hill")), "nowhere")

    def test_heir(self):
        rows = [("death", 2, "cat")]
        self.assertEqual(self.told(rows, ("heir", 3, "ann", "bob")), "stands")
        self.assertEqual(self.told(rows, ("heir", 3, "ann", "cat")), "stands")
        self.assertEqual(self.told(rows, ("heir", 3, "cat", "ann")), "dead")
        self.assertEqual(self.told(rows, ("heir", 2, "cat", "ann")), "stands")

    def test_death(self):
        rows = [("death", 2, "cat")]
        self.assertEqual(Court(9, 9, rows).verdict(rows[0]), "stands")
        self.assertEqual(self.told(rows, ("death", 3, "cat")), "dead")
        self.assertEqual(self.told(rows, ("death", 1, "cat")), "stands")
        self.assertEqual(Court(9, 9, rows + [("death", 1, "cat")]).verdict(rows[0]), "dead")
        self.assertEqual(self.told(rows, ("death", 2, "ann")), "stands")

    def test_liege(self):
        rows = ANN_AND_BOB + [("death", 3, "ann"), ("heir", 2, "ann", "dan")]
        self.assertEqual(self.told(rows, ("liege", 2, "bob", "ann")), "stands")
        self.assertEqual(self.told(rows, ("liege", 1, "bob", "ann")), "nobond")
        self.assertEqual(self.told(rows, ("liege", 2, "bob", "")), "stands")
        self.assertEqual(self.told(rows, ("liege", 2, "ann", "")), "stands")
        self.assertEqual(self.told(rows, ("liege", 2, "ann", "bob")), "nobond")
        self.assertEqual(self.told(rows, ("liege", 2, "bob", "cat")), "nobond")
        self.assertEqual(self.told(rows, ("liege", 2, "cat", "")), "nobond")
        self.assertEqual(self.told(rows, ("liege", 4, "ann", "")), "dead")
        self.assertEqual(self.told(rows, ("liege", 4, "ann", "bob")), "dead")
        self.assertEqual(self.told(rows, ("liege", 4, "bob", "ann")), "nobond")
        self.assertEqual(self.told(rows, ("liege", 4, "bob", "dan")), "stands")

    def test_liege_of_one_who_is_two_steps_up(self):
        rows = ANN_AND_BOB + [("grant", 3, "dale", "glen", "cat", 2, 1)]
        self.assertEqual(self.told(rows, ("liege", 4, "cat", "bob")), "stands")
        self.assertEqual(self.told(rows, ("liege", 4, "cat", "ann")), "nobond")
        self.assertEqual(self.told(rows, ("liege", 4, "cat", "")), "nobond")

    def test_void_charters_do_nothing(self):
        rows = ANN_AND_BOB + [("death", 2, "cat")]
        before = Court(100, 1, rows).land(9)
        for row in (("grant", 3, "glen", "fen", "dan", 1, 1), ("grant", 3, "", "moor", "dan", 1, 1),
                    ("grant", 3, "", "fen", "cat", 1, 1), ("grant", 3, "", "fen", "dan", 11, 1),
                    ("part", 3, "glen", "fen", "dan", 1), ("part", 3, "hill", "moor", "dan", 1),
                    ("part", 3, "hill", "fen", "cat", 1), ("part", 3, "hill", "fen", "dan", 41),
                    ("convey", 3, "glen", "dan"), ("convey", 3, "hill", "cat"), ("surrender", 3, "glen"),
                    ("heir", 3, "cat", "dan"), ("death", 3, "cat"), ("liege", 3, "bob", "dan")):
            court = Court(100, 1, rows + [row])
            self.assertNotEqual(court.verdict(row), "stands")
            self.assertTrue(court.land(9).same(before))
            self.assertIsNone(court.liege(9, row[2]))

    def test_the_name_of_a_void_charter_is_free(self):
        rows = ANN_AND_BOB + [("grant", 3, "", "fen", "dan", 11, 1), ("part", 3, "glen", "fen", "dan", 1)]
        self.assertEqual(self.told(rows, ("grant", 4, "", "fen", "dan", 10, 1)), "stands")

    def test_a_name_that_was_used(self):
        rows = ANN_AND_BOB + [("surrender", 3, "dale"), ("part", 2, "hill", "fen", "cat", 1), ("death", 3, "cat")]
        for name in ("dale", "fen"):
            self.assertFalse(Court(100, 1, rows).land(4).there(name))
            self.assertEqual(self.told(rows, ("grant", 4, "", name, "dan", 1, 1)), "taken")
            self.assertEqual(self.told(rows, ("part", 4, "hill", name, "dan", 1)), "taken")
            self.assertEqual(self.told(rows, ("grant", 4, "hill", name, "ann", 99, 1)), "taken")
            self.assertEqual(self.told(rows, ("grant", 4, name, "new", "ann", 1, 1)), "nowhere")


class Days(Courts):
    """Several charters on one day."""

    def words(self, rows):
        """The words of the rows, and the order in which they were judged, whatever the order that they came in."""
        told = {tuple(Court(100, 1, list(turned)).verdicts()) for turned in itertools.permutations(rows)}
        self.assertEqual(len(told), 1)
        verdicts = list(told.pop())
        return [dict(verdicts)[row] for row in rows], [row for row, word in verdicts]

    def test_a_grant_and_a_death(self):
        rows = [("death", 5, "ann"), ("grant", 5, "", "hill", "ann", 10, 1)]
        words, order = self.words(rows)
        self.assertEqual((words, order), (["stands", "stands"], rows[::-1]))
        court = Court(100, 1, rows)
        self.assertEqual(court.land(5).estates(), [])
        self.assertEqual(court.verdict(rows[1]), "stands")
        self.assertEqual(self.told(rows, ("grant", 5, "", "hill", "bob", 10, 1)), "taken")
        self.assertEqual(self.told(rows, ("grant", 5, "hill", "dale", "bob", 10, 1)), "stands")

    def test_an_heir_and_a_death(self):
        rows = [("death", 5, "ann"), ("heir", 5, "ann", "bob"), ("grant", 4, "", "hill", "ann", 10, 1)]
        words, order = self.words(rows)
        self.assertEqual((words, order), (["stands"] * 3, rows[::-1]))
        self.assertEqual(Court(100, 1, rows).land(5).holder("hill"), "bob")
        self.assertEqual(Court(100, 1, rows).land(4).holder("hill"), "ann")
        rows[1] = ("heir", 6, "ann", "bob")
        self.assertEqual(self.words(rows)[0], ["stands", "dead", "stands"])
        self.assertEqual(Court(100, 1, rows).land(6).estates(), [])

    def test_a_part_and_a_surrender(self):
        rows = [("surrender", 5, "hill"), ("part", 5, "hill", "dale", "bob", 4), ("grant", 4, "", "hill", "ann", 10, 5)]
        words, order = self.words(rows)
        self.assertEqual((words, order), (["stands"] * 3, rows[::-1]))
        self.assertEqual(picture(Court(100, 1, rows).land(5)), {
            "": ("", None, 96, 100, (0, 1), [""], ["dale"]),
            "dale": ("bob", "", 4, 4, (2, 1), ["dale", ""], []),
        })

    def test_grants_of_one_day_in_the_order_of_tuples(self):
        rows = [("grant", 5, "", "b", "ann", 60, 1), ("grant", 5, "", "a", "bob", 50, 1), ("grant", 5, "", "c", "ann", 50, 1)]
        self.assertEqual(self.words(rows)[0], ["acres", "stands", "stands"])
        rows = [("grant", 5, "b", "a", "ann", 60, 1), ("grant", 5, "", "b", "bob", 70, 1)]
        self.assertEqual(self.words(rows)[0], ["stands", "stands"])
        rows = [("grant", 5, "b", "a", "ann", 9, 1), ("grant", 5, "c", "b", "ann", 9, 1), ("grant", 5, "", "c", "ann", 9, 1)]
        self.assertEqual(self.words(rows)[0], ["nowhere", "stands", "stands"])
        rows = [("grant", 5, "", "a", "ann", 10, 1), ("grant", 5, "", "a", "ann", 9, 9)]
        self.assertEqual(self.words(rows)[0], ["taken", "stands"])

    def test_all_seven_kinds_on_one_day(self):
        rows = [
            ("heir", 5, "ann", "bob"), ("grant", 5, "", "hill", "ann", 60, 12), ("part", 5, "hill", "dale", "cat", 20),
            ("convey", 5, "dale", "dan"), ("liege", 5, "dan", ""), ("surrender", 5, "dale"), ("death", 5, "ann"),
        ]
        for turn in range(7):
            court = Court(100, 1, rows[turn:] + rows[:turn])
            self.assertEqual(court.verdicts(), [(row, "stands") for row in rows])
            self.assertEqual(picture(court.land(5)), {
                "": ("", None, 60, 100, (0, 1), [""], ["hill"]),
                "hill": ("bob", "", 40, 40, (8, 1), ["hill", ""], []),
            })
            self.assertEqual((court.liege(5, "dan"), court.dead(5, "ann")), ("", True))

    def test_a_death_and_a_convey_to_the_dead(self):
        rows = ANN_AND_BOB + [("death", 5, "cat"), ("convey", 5, "hill", "cat")]
        self.assertEqual(Court(100, 1, rows).verdict(rows[-1]), "stands")
        self.assertFalse(Court(100, 1, rows).land(5).there("hill"))

    def test_deaths_on_one_day_go_by_names(self):
        rows = ANN_AND_BOB + [("heir", 3, "ann", "cat"), ("death", 5, "cat"), ("death", 5, "ann")]
        court = Court(100, 1, rows)
        self.assertFalse(court.land(5).there("hill"))
        rows = ANN_AND_BOB + [("heir", 3, "bob", "ann"), ("death", 5, "bob"), ("death", 5, "ann")]
        self.assertEqual(Court(100, 1, rows).land(5).estates(), [])

    def test_a_later_charter_entered_first(self):
        rows = ANN_AND_BOB[::-1] + [("grant", 0, "", "moor", "cat", 99, 9)]
        self.assertEqual(Court(100, 1, rows).verdicts(), [
            (("grant", 0, "", "moor", "cat", 99, 9), "stands"), (ANN_AND_BOB[0], "acres"),
            (ANN_AND_BOB[1], "taken"), (ANN_AND_BOB[2], "nowhere"),
        ])


class Deaths(Courts):
    def test_somebody_takes(self):
        rows = ANN_AND_BOB + [("heir", 3, "bob", "dan"), ("heir", 3, "dan", "eve"), ("death", 5, "bob")]
        land = Court(100, 1, rows).land(5)
        self.assertEqual((land.held("bob"), land.held("dan")), ([], ["dale", "moor"]))
        land = Court(100, 1, rows + [("death", 4, "dan")]).land(5)
        self.assertEqual((land.held("dan"), land.held("eve")), ([], ["dale", "moor"]))

    def test_all_falls_back(self):
        land = Court(100, 1, ANN_AND_BOB + [("death", 5, "bob")]).land(5)
        self.assertEqual(picture(land), {
            "": ("", None, 40, 100, (0, 1), [""], ["hill"]),
            "hill": ("ann", "", 60, 60, (12, 1), ["hill", ""], []),
        })

    def test_estates_under_one_another_fall_back(self):
        rows = [("grant", 1, "", "b", "ann", 50, 5), ("grant", 2, "b", "a", "ann", 40, 4), ("grant", 3, "a", "c", "bob", 30, 3),
                ("grant", 4, "c", "d", "ann", 20, 2), ("grant", 5, "d", "e", "bob", 5, 1), ("death", 6, "ann")]
        self.assertEqual(picture(Court(100, 1, rows).land(6)), {
            "": ("", None, 70, 100, (0, 1), [""], ["c"]),
            "c": ("bob", "", 25, 30, (3, 1), ["c", ""], ["e"]),
            "e": ("bob", "c", 5, 5, (1, 1), ["e", "c", ""], []),
        })

    def test_rings_of_heirs(self):
        rows = ANN_AND_BOB + [("heir", 1, "bob", "cat"), ("heir", 1, "cat", "dan"), ("death", 2, "cat"), ("death", 3, "dan")]
        for ring in ("bob", "cat"):
            court = Court(100, 1, rows + [("heir", 2, "dan", ring), ("death", 5, "bob")])
            self.assertEqual(court.land(5).estates(), ["hill"])
        court = Court(100, 1, rows + [("heir", 2, "dan", "ann"), ("death", 5, "bob")])
        self.assertEqual(court.land(5).held("ann"), ["dale", "hill", "moor"])

    def test_an_heir_in_the_place_of_an_earlier_one(self):
        rows = ANN_AND_BOB + [("heir", 3, "bob", "dan"), ("heir", 4, "bob", "eve"), ("death", 5, "bob")]
        self.assertEqual(Court(100, 1, rows).land(5).held("eve"), ["dale", "moor"])
        rows = ANN_AND_BOB + [("heir", 4, "bob", "dan"), ("heir", 3, "bob", "eve"), ("death", 5, "bob")]
        self.assertEqual(Court(100, 1, rows).land(5).held("dan"), ["dale", "moor"])
        rows = ANN_AND_BOB + [("heir", 3, "bob", "eve"), ("heir", 3, "bob", "dan"), ("death", 5, "bob")]
        self.assertEqual(Court(100, 1, rows).land(5).held("eve"), ["dale", "moor"])

    def test_dead_by_days(self):
        court = Court(100, 1, [("death", 5, "ann"), ("death", 8, "ann"), ("death", 0, "bob"), ("death", 9999, "cat")])
        for day in (0, 1, 4):
            self.assertIs(court.dead(day, "ann"), False)
        for day in (5, 6, 7, 8, 9999):
            self.assertIs(court.dead(day, "ann"), True)
        self.assertIs(court.dead(0, "bob"), True)
        self.assertIs(court.dead(9998, "cat"), False)
        self.assertIs(court.dead(9999, "cat"), True)
        for man in ("", "dan"):
            self.assertIs(court.dead(9999, man), False)


class Lieges(Courts):
    def test_by_days(self):
        rows = ANN_AND_BOB + [("liege", 5, "bob", "ann"), ("liege", 9, "bob", ""), ("liege", 9999, "ann", "")]
        court = Court(100, 1, rows)
        for day, lord in ((0, None), (4, None), (5, "ann"), (6, "ann"), (8, "ann"), (9, ""), (10, ""), (9999, "")):
            self.assertEqual(court.liege(day, "bob"), lord)
        self.assertIsNone(court.liege(9998, "ann"))
        self.assertEqual(court.liege(9999, "ann"), "")
        for man in ("", "cat"):
            self.assertIsNone(court.liege(9999, man))

    def test_chosen_anew_on_one_day(self):
        rows = ANN_AND_BOB + [("liege", 5, "bob", "ann"), ("liege", 5, "bob", ""), ("liege", 7, "bob", ""), ("liege", 8, "bob", "ann")]
        court = Court(100, 1, rows)
        self.assertEqual([court.liege(day, "bob") for day in (4, 5, 6, 7, 8)], [None, "ann", "ann", "", "ann"])

    def test_void_ones_choose_nobody(self):
        rows = ANN_AND_BOB + [("liege", 5, "bob", "ann"), ("liege", 6, "bob", "cat"), ("death", 7, "bob"), ("liege", 8, "bob", "")]
        court = Court(100, 1, rows)
        self.assertEqual([court.verdict(row) for row in rows[3:]], ["stands", "nobond", "stands", "dead"])
        self.assertEqual([court.liege(day, "bob") for day in (5, 6, 7, 8)], ["ann"] * 4)

    def test_a_liege_lord_stays_when_the_bond_is_gone(self):
        rows = ANN_AND_BOB + [("liege", 5, "bob", "ann"), ("surrender", 6, "dale"), ("death", 7, "ann")]
        self.assertEqual(Court(100, 1, rows).liege(8, "bob"), "ann")


class Verdicts(Courts):
    def test_a_row_that_is_none_of_them(self):
        court = Court(100, 1, list(ANN_AND_BOB))
        for row in ANN_AND_BOB:
            self.assertEqual(court.verdict(row), "stands")
        for row in (("grant", 2, "", "hill", "ann", 60, 12), ("grant", 1, "", "hill", "anna", 60, 12),
                    ("grant", 1, "", "hill", "ann", 59, 12), ("grant", 1, "", "hill", "ann", 60, 11),
                    ("grant", 1, "", "hills", "ann", 60, 12), ("grant", 1, "hill", "hill", "ann", 60, 12),
                    ("part", 1, "", "hill", "ann", 60, 12), ("grant", 1, "", "hill", "ann", 60),
                    ("grant", 1, "", "hill", "ann", 60, 12, 1), ("death", 1, "ann"), ("feu",), ("feu", [1])):
            self.refused(NoEntry, court.verdict, row)
        self.refused(NoEntry, Court(100, 1, []).verdict, ANN_AND_BOB[0])

    def test_what_was_handed_in_may_be_changed(self):
        rows = list(ANN_AND_BOB)
        court = Court(100, 1, rows)
        self.assertEqual(rows, ANN_AND_BOB)
        rows.clear()
        self.assertEqual(court.verdicts(), [(row, "stands") for row in ANN_AND_BOB])
        rows += [("surrender", 0, "hill")]
        self.assertEqual(court.land(3).estates(), ["dale", "hill", "moor"])
        self.assertEqual(court.verdict(ANN_AND_BOB[2]), "stands")
        self.assertEqual(court.spells(), [(0, 1), (1, 2), (2, None)])
        self.refused(NoEntry, court.verdict, ("surrender", 0, "hill"))

    def test_lists_told_may_be_changed(self):
        court = Court(100, 1, list(ANN_AND_BOB))
        for told in (court.verdicts, court.spells):
            first = told()
            kept = list(first)
            self.assertIs(type(first), list)
            self.assertEqual({type(one) for one in first}, {tuple})
            first.append("more")
            first[0] = "other"
            self.assertEqual(told(), kept)
            told().clear()
            self.assertEqual(told(), kept)

    def test_two_courts_are_their_own(self):
        one, other = Court(100, 1, list(ANN_AND_BOB)), Court(50, 2, [("death", 3, "ann")])
        self.assertEqual((one.dead(5, "ann"), other.dead(5, "ann")), (False, True))
        self.assertEqual((one.acres(), other.acres(), one.bears(), other.bears()), (100, 50, 1, 2))
        self.assertEqual(other.land(5).estates(), [])


class LandOfADay(Courts):
    def test_about_the_days_of_charters(self):
        rows = [("grant", 0, "", "hill", "ann", 60, 12), ("grant", 7, "hill", "dale", "bob", 20, 3),
                ("surrender", 9998, "hill"), ("convey", 9999, "dale", "cat")]
        court = Court(100, 1, rows)
        expected = {0: ["hill"], 6: ["hill"], 7: ["dale", "hill"], 8: ["dale", "hill"],
                    9997: ["dale", "hill"], 9998: ["dale"], 9999: ["dale"]}
        for days in (sorted(expected), sorted(expected, reverse=True), [7, 0, 9999, 6, 9998, 8, 0, 7]):
            for day in days:
                self.assertEqual(court.land(day).estates(), expected[day])
        self.assertEqual([court.land(day).holder("dale") for day in (9999, 9998)], ["cat", "bob"])
        self.assertEqual(court.land(9998).lord("dale"), "")
        self.assertEqual(court.land(9997).lord("dale"), "hill")

    def test_a_told_land_may_be_changed(self):
        court = Court(100, 1, list(ANN_AND_BOB))
        for day in (0, 1, 2, 9999):
            before = picture(court.land(day))
            told = court.land(day)
            told.grant("", "new", "eve", 1, 1)
            for estate in told.estates()[:-1]:
                told.fall_back(estate)
            self.assertEqual(picture(court.land(day)), before)
        self.assertEqual(court.spells(), [(0, 1), (1, 2), (2, None)])
        self.assertEqual(court.land(1).estates(), ["hill", "moor"])

    def test_an_estate_that_is_not_there_on_the_day(self):
        court = Court(100, 1, ANN_AND_BOB + [("surrender", 4, "dale")])
        for day in (1, 4):
            self.refused(NoEstate, court.land(day).chain, "dale")
        for day in (2, 3):
            self.assertEqual(court.land(day).chain("dale"), ["dale", "hill", ""])


class Spells(Courts):
    def spells(self, rows):
        return Court(100, 1, rows).spells()

    def test_each_change_begins_one(self):
        rows = ANN_AND_BOB + [("part", 4, "hill", "fen", "ann", 1), ("convey", 6, "fen", "cat"), ("surrender", 9, "fen"),
                              ("death", 12, "bob")]
        self.assertEqual(self.spells(rows),
                         [(0, 1), (1, 2), (2, 4), (4, 6), (6, 9), (9, 12), (12, None)])

    def test_charters_that_change_nothing_end_none(self):
        self.assertEqual(self.spells(ANN_AND_BOB), [(0, 1), (1, 2), (2, None)])
        for row in (("convey", 5, "hill", "ann"), ("convey", 5, "glen", "ann"), ("surrender", 5, "glen"),
                    ("grant", 5, "", "fen", "ann", 99, 1), ("heir", 5, "ann", "bob"), ("liege", 5, "bob", "ann"),
                    ("liege", 5, "bob", "cat"), ("death", 5, "cat"), ("heir", 9999, "ann", "bob")):
            self.assertEqual(self.spells(ANN_AND_BOB + [row]), [(0, 1), (1, 2), (2, None)])

    def test_changes_that_come_to_the_same_land_on_one_day(self):
        rows = ANN_AND_BOB + [("grant", 5, "hill", "fen", "cat", 3, 1), ("surrender", 5, "fen")]
        self.assertEqual(self.spells(rows), [(0, 1), (1, 2), (2, None)])
        rows = ANN_AND_BOB + [("convey", 5, "hill", "aaa"), ("convey", 5, "hill", "ann")]
        self.assertEqual(self.spells(rows), [(0, 1), (1, 2), (2, None)])
        rows = [("grant", 0, "", "hill", "ann", 5, 5), ("surrender", 0, "hill")]
        self.assertEqual(self.spells(rows), [(0, None)])

    def test_the_same_land_again_on_a_later_day(self):
        rows = ANN_AND_BOB + [("convey", 5, "hill", "cat"), ("convey", 6, "hill", "ann")]
        court = Court(100, 1, rows)
        self.assertEqual(court.spells(), [(0, 1), (1, 2), (2, 5), (5, 6), (6, None)])
        self.assertTrue(court.land(4).same(court.land(6)))

    def test_at_both_ends(self):
        self.assertEqual(self.spells([("grant", 0, "", "hill", "ann", 5, 5)]), [(0, None)])
        self.assertEqual(self.spells([("grant", 9999, "", "hill", "ann", 5, 5)]), [(0, 9999), (9999, None)])
        self.assertEqual(self.spells([("grant", 0, "", "hill", "ann", 5, 5), ("convey", 1, "hill", "bob")]),
                         [(0, 1), (1, None)])
        court = Court(100, 1, [("grant", 0, "", "hill", "ann", 5, 5)])
        self.assertEqual(court.land(0).estates(), ["hill"])


class ManyCharters(Courts):
    def as_the_slow_court(self, acres, rows, days, men):
        court = Court(acres, 1, list(rows))
        slow = SlowCourt(acres, rows)
        self.assertEqual(court.verdicts(), slow.told)
        for row, word in slow.told:
            self.assertEqual(court.verdict(row), word)
        self.assertEqual(court.spells(), slow_spells(acres, rows))
        for day in days:
            then = SlowCourt(acres, rows, day)
            self.assertEqual(picture(court.land(day)), then.land.picture())
            for man in men:
                self.assertEqual(court.liege(day, man), then.lieges.get(man))
                self.assertIs(court.dead(day, man), man in then.dead)
        return slow

    def test_as_the_slow_court_tells(self):
        men, words = ["ann", "bob", "cat", "dan", "eve"], set()
        for seed in range(60):
            rows = some_rows(Dice(seed), 45, list("abcdefghijk"), men, 12)
            slow = self.as_the_slow_court(60, rows, [0, 1, 5, 6, 11, 12, 13, 9999], men + [""])
            words |= {(row[0], word) for row, word in slow.told}
        # Each kind stood, and was void by each of its words.
        self.assertEqual(words, {(kind, word) for kind, its in {
            "heir": ["dead"], "grant": ["nowhere", "taken", "dead", "acres"],
            "part": ["nowhere", "taken", "dead", "acres"], "convey": ["nowhere", "dead"],
            "liege": ["dead", "nobond"], "surrender": ["nowhere"], "death": ["dead"],
        }.items() for word in its + ["stands"]})

    def test_the_same_rows_turned_about(self):
        for seed in range(10):
            rows = some_rows(Dice(100 + seed), 30, list("abcdef"), ["ann", "bob", "cat"], 6)
            first = Court(60, 1, list(rows))
            for turned in (rows[::-1], rows[7:] + rows[:7], sorted(rows), sorted(rows, reverse=True)):
                other = Court(60, 1, list(turned))
                self.assertEqual(other.verdicts(), first.verdicts())
                self.assertEqual(other.spells(), first.spells())
                self.assertTrue(all(other.land(day).same(first.land(day)) for day in range(8)))

    def test_three_hundred_rows(self):
        names = [sign + other + third for sign in "abc" for other in "abcdefghij" for third in "abcdefghij"]
        rows = [("grant", 30 * at, lord, name, "m" + name, 400 - at, 3)
                for at, (lord, name) in enumerate(zip([""] + names, names))]
        court = Court(9999, 99, rows[::-1])
        self.assertEqual({word for row, word in court.verdicts()}, {"stands"})
        self.assertEqual(court.land(9999).chain(names[-1]), names[::-1] + [""])
        self.assertEqual(len(court.spells()), 300)
        self.assertEqual(court.spells()[-1], (8970, None))


if __name__ == "__main__":
    unittest.main()
