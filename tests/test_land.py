import unittest

from manrent.errors import NoEstate, NoLand
from manrent.land import Land
from oracle import Dice, SlowLand, picture
from refusing import Refusing

QUESTIONS = ("holder", "lord", "own", "breadth", "service", "chain", "under")


def some_land():
    """Hill and moor of the crown, dale under hill, glen under dale, beck beside dale."""
    land = Land(100)
    land.grant("", "hill", "ann", 60, 12)
    land.grant("", "moor", "bob", 40, 0)
    land.grant("hill", "dale", "bob", 35, 7)
    land.grant("dale", "glen", "cat", 5, 3)
    land.part_off("dale", "beck", "ann", 10)
    return land


class Making(Refusing):
    def test_acres_out_of_bounds(self):
        for acres in (0, -1, -9999, 10000, 123456, 10 ** 5000):
            self.refused(NoLand, Land, acres)

    def test_acres_within_bounds(self):
        for acres in (1, 2, 9998, 9999):
            with self.subTest(acres=acres):
                land = Land(acres)
                self.assertEqual(land.own(""), acres)
                self.assertEqual(land.breadth(""), acres)

    def test_at_first_all_is_the_crowns(self):
        land = Land(7)
        self.assertEqual(picture(land), {"": ("", None, 7, 7, (0, 1), [""], [])})
        self.assertEqual(land.estates(), [])
        self.assertEqual(land.folk(), [""])
        self.assertEqual(land.held(""), [""])
        self.assertEqual(land.held("ann"), [])
        self.assertIs(land.there(""), True)
        self.assertIs(land.there("hill"), False)


class Questions(Refusing):
    def test_grants_out_of_the_crowns_estate_and_out_of_others(self):
        land = Land(100)
        self.assertIsNone(land.grant("", "hill", "ann", 60, 12))
        self.assertEqual(picture(land), {
            "": ("", None, 40, 100, (0, 1), [""], ["hill"]),
            "hill": ("ann", "", 60, 60, (12, 1), ["hill", ""], []),
        })
        land.grant("", "moor", "bob", 40, 0)
        land.grant("hill", "dale", "bob", 60, 9999)
        land.grant("dale", "glen", "ann", 1, 1)
        self.assertEqual(picture(land), {
            "": ("", None, 0, 100, (0, 1), [""], ["hill", "moor"]),
            "hill": ("ann", "", 0, 60, (12, 1), ["hill", ""], ["dale"]),
            "moor": ("bob", "", 40, 40, (0, 1), ["moor", ""], []),
            "dale": ("bob", "hill", 59, 60, (9999, 1), ["dale", "hill", ""], ["glen"]),
            "glen": ("ann", "dale", 1, 1, (1, 1), ["glen", "dale", "hill", ""], []),
        })
        self.assertEqual(land.estates(), ["dale", "glen", "hill", "moor"])
        self.assertEqual(land.folk(), ["", "ann", "bob"])
        self.assertEqual(land.held("ann"), ["glen", "hill"])
        self.assertEqual(land.held("bob"), ["dale", "moor"])
        self.assertEqual(land.held("cat"), [])
        self.assertEqual(land.held("hill"), [])
        self.assertEqual(land.held(""), [""])

    def test_parts_conveys_and_falls(self):
        land = some_land()
        self.assertEqual(picture(land), {
            "": ("", None, 0, 100, (0, 1), [""], ["hill", "moor"]),
            "hill": ("ann", "", 25, 60, (12, 1), ["hill", ""], ["beck", "dale"]),
            "moor": ("bob", "", 40, 40, (0, 1), ["moor", ""], []),
            "dale": ("bob", "hill", 20, 25, (5, 1), ["dale", "hill", ""], ["glen"]),
            "glen": ("cat", "dale", 5, 5, (3, 1), ["glen", "dale", "hill", ""], []),
            "beck": ("ann", "hill", 10, 10, (2, 1), ["beck", "hill", ""], []),
        })
        self.assertIsNone(land.convey("hill", "dan"))
        self.assertEqual(land.holder("hill"), "dan")
        self.assertEqual(land.held("ann"), ["beck"])
        self.assertEqual(land.held("dan"), ["hill"])
        self.assertEqual(land.folk(), ["", "ann", "bob", "cat", "dan"])
        self.assertIsNone(land.fall_back("dale"))
        self.assertEqual(picture(land), {
            "": ("", None, 0, 100, (0, 1), [""], ["hill", "moor"]),
            "hill": ("dan", "", 45, 60, (12, 1), ["hill", ""], ["beck", "glen"]),
            "moor": ("bob", "", 40, 40, (0, 1), ["moor", ""], []),
            "glen": ("cat", "hill", 5, 5, (3, 1), ["glen", "hill", ""], []),
            "beck": ("ann", "hill", 10, 10, (2, 1), ["beck", "hill", ""], []),
        })
        self.assertEqual(land.estates(), ["beck", "glen", "hill", "moor"])

    def test_folk_are_those_who_hold(self):
        land = Land(10)
        land.grant("", "hill", "ann", 10, 1)
        land.convey("hill", "bob")
        self.assertEqual(land.folk(), ["", "bob"])
        land.fall_back("hill")
        self.assertEqual(land.folk(), [""])

    def test_a_convey_changes_the_holder_alone(self):
        land = some_land()
        before = picture(land)
        land.convey("dale", "eve")
        before["dale"] = ("eve",) + before["dale"][1:]
        self.assertEqual(picture(land), before)

    def test_a_man_and_an_estate_of_the_same_name(self):
        land = Land(10)
        land.grant("", "ann", "ann", 4, 1)
        land.grant("ann", "bob", "cat", 2, 1)
        self.assertEqual(land.held("ann"), ["ann"])
        self.assertEqual(land.held("bob"), [])
        self.assertEqual(land.under("ann"), ["bob"])
        self.assertEqual(land.chain("bob"), ["bob", "ann", ""])
        self.assertEqual(land.folk(), ["", "ann", "cat"])

    def test_estates_that_are_not_there(self):
        land = some_land()
        land.fall_back("dale")
        for estate in ("dale", "never", "ann", "bob", "-", "Hill", "hill ", "longername"):
            before = picture(land)
            for question in QUESTIONS:
                with self.subTest(estate=estate, question=question):
                    self.refused(NoEstate, getattr(land, question), estate)
            self.assertIs(land.there(estate), False)
            self.assertEqual(land.held("nobody"), [])
            self.assertEqual(picture(land), before)
        for estate in ("", "hill", "moor", "glen", "beck"):
            self.assertIs(land.there(estate), True)

    def test_own_acres_come_to_the_lands(self):
        land = some_land()
        for step in (lambda: None, lambda: land.fall_back("dale"), lambda: land.part_off("hill", "fen", "bob", 45),
                     lambda: land.grant("moor", "knoll", "cat", 39, 2), lambda: land.fall_back("moor"),
                     lambda: land.convey("fen", "ann"), lambda: land.fall_back("hill")):
            step()
            self.assertEqual(sum(land.own(estate) for estate in [""] + land.estates()), 100)
            self.assertEqual(land.breadth(""), 100)

    def test_a_long_chain(self):
        land = Land(400)
        names = [""]
        for at in range(300):
            names.append("e" + "abcdefghij"[at // 100] + "abcdefghij"[at // 10 % 10] + "abcdefghij"[at % 10])
            land.grant(names[-2], names[-1], "ann", 400 - at, at)
        self.assertEqual(land.chain(names[-1]), names[::-1])
        self.assertEqual([land.breadth(name) for name in names], [400] + [400 - at for at in range(300)])
        self.assertEqual(land.own(names[-1]), 101)
        self.assertEqual(land.own(names[7]), 1)
        for name in names[1:-1]:
            land.fall_back(name)
        self.assertEqual(land.chain(names[-1]), [names[-1], ""])
        self.assertEqual((land.own(""), land.breadth(""), land.under("")), (299, 400, [names[-1]]))


class Parts(unittest.TestCase):
    def test_with_others_under_it(self):
        land = Land(100)
        land.grant("", "hill", "ann", 60, 10)
        land.grant("hill", "dale", "bob", 42, 7)
        self.assertIsNone(land.part_off("hill", "moor", "cat", 9))
        self.assertEqual(picture(land), {
            "": ("", None, 40, 100, (0, 1), [""], ["hill", "moor"]),
            "hill": ("ann", "", 9, 51, (17, 2), ["hill", ""], ["dale"]),
            "moor": ("cat", "", 9, 9, (3, 2), ["moor", ""], []),
            "dale": ("bob", "hill", 42, 42, (7, 1), ["dale", "hill", ""], []),
        })

    def test_all_own_acres(self):
        land = Land(100)
        land.grant("", "hill", "ann", 60, 10)
        land.part_off("hill", "moor", "ann", 60)
        self.assertEqual(land.service("hill"), (0, 1))
        self.assertEqual(land.service("moor"), (10, 1))
        self.assertEqual((land.own("hill"), land.breadth("hill")), (0, 0))
        self.assertEqual((land.own("moor"), land.breadth("moor")), (60, 60))
        self.assertEqual(land.holder("hill"), "ann")

    def test_all_own_acres_with_others_under_it(self):
        land = Land(100)
        land.grant("", "hill", "ann", 9, 10)
        land.grant("hill", "dale", "bob", 2, 1)
        land.part_off("hill", "moor", "cat", 7)
        self.assertEqual(land.service("hill"), (20, 9))
        self.assertEqual(land.service("moor"), (70, 9))
        self.assertEqual((land.own("hill"), land.breadth("hill"), land.under("hill")), (0, 2, ["dale"]))
        self.assertEqual(land.under("moor"), [])

    def test_again_and_again(self):
        land = Land(100)
        land.grant("", "hill", "ann", 12, 5)
        land.part_off("hill", "a", "bob", 3)
        land.part_off("hill", "b", "bob", 2)
        land.part_off("a", "c", "bob", 1)
        self.assertEqual(land.service("hill"), (35, 12))
        self.assertEqual(land.service("b"), (5, 6))
        self.assertEqual(land.service("a"), (5, 6))
        self.assertEqual(land.service("c"), (5, 12))
        self.assertEqual(land.under(""), ["a", "b", "c", "hill"])
        self.assertEqual([land.breadth(name) for name in ("hill", "a", "b", "c")], [7, 2, 2, 1])

    def test_of_nought(self):
        land = Land(100)
        land.grant("", "hill", "ann", 12, 0)
        land.part_off("hill", "a", "bob", 5)
        self.assertEqual((land.service("hill"), land.service("a")), ((0, 1), (0, 1)))

    def test_under_another_estate(self):
        land = Land(100)
        land.grant("", "hill", "ann", 30, 6)
        land.grant("hill", "dale", "bob", 9, 4)
        land.part_off("dale", "moor", "cat", 3)
        self.assertEqual(land.lord("moor"), "hill")
        self.assertEqual((land.service("dale"), land.service("moor")), ((8, 3), (4, 3)))
        self.assertEqual((land.own("hill"), land.breadth("hill"), land.service("hill")), (21, 30, (6, 1)))

    def test_behind_a_fall_the_breadth_is_as_it_is_then(self):
        land = Land(100)
        land.grant("", "hill", "ann", 10, 1)
        land.grant("hill", "dale", "bob", 4, 1)
        land.fall_back("dale")
        land.part_off("hill", "moor", "cat", 8)
        self.assertEqual((land.service("hill"), land.service("moor")), ((1, 5), (4, 5)))
        self.assertEqual((land.breadth("hill"), land.breadth("moor")), (2, 8))

    def test_sixty_times_each_out_of_the_last_one(self):
        land, slow = Land(9999), SlowLand(9999)
        names = [sign * many for many in (1, 2, 3) for sign in "abcdefghijklmnopqrstuvwxyz"][:61]
        for one in (land, slow):
            one.grant("", "a", "ann", 9998, 9999)
            for at in range(60):
                one.part_off(names[at], names[at + 1], "bob", 9997 - 7 * at)
        self.assertEqual(picture(land), slow.picture())
        self.assertEqual(land.service("b"), (69993, 9998))
        self.assertEqual(land.own(names[60]), 9997 - 7 * 59)


class Falls(unittest.TestCase):
    def test_acres_go_to_the_lord(self):
        land = some_land()
        land.fall_back("beck")
        self.assertEqual((land.own("hill"), land.own("")), (35, 0))
        land.fall_back("moor")
        self.assertEqual((land.own("hill"), land.own("")), (35, 40))
        self.assertEqual(land.estates(), ["dale", "glen", "hill"])

    def test_those_under_it_go_to_its_lord_as_they_were(self):
        land = some_land()
        land.fall_back("hill")
        self.assertEqual(picture(land), {
            "": ("", None, 25, 100, (0, 1), [""], ["beck", "dale", "moor"]),
            "moor": ("bob", "", 40, 40, (0, 1), ["moor", ""], []),
            "dale": ("bob", "", 20, 25, (5, 1), ["dale", ""], ["glen"]),
            "glen": ("cat", "dale", 5, 5, (3, 1), ["glen", "dale", ""], []),
            "beck": ("ann", "", 10, 10, (2, 1), ["beck", ""], []),
        })

    def test_an_estate_without_own_acres(self):
        land = Land(10)
        land.grant("", "hill", "ann", 4, 1)
        land.grant("hill", "dale", "bob", 4, 2)
        land.fall_back("hill")
        self.assertEqual(picture(land), {
            "": ("", None, 6, 10, (0, 1), [""], ["dale"]),
            "dale": ("bob", "", 4, 4, (2, 1), ["dale", ""], []),
        })

    def test_all_falls_back(self):
        land = some_land()
        for estate in ("dale", "hill", "beck", "moor", "glen"):
            land.fall_back(estate)
        self.assertTrue(land.same(Land(100)))
        self.assertEqual(picture(land), picture(Land(100)))


class SameAndTwin(unittest.TestCase):
    def check_same(self, one, other, expected):
        self.assertIs(one.same(other), expected)
        self.assertIs(other.same(one), expected)

    def test_new_lands(self):
        self.check_same(Land(5), Land(5), True)
        self.check_same(Land(5), Land(6), False)
        land = some_land()
        self.check_same(land, land, True)
        self.check_same(land, some_land(), True)

    def test_the_same_come_to_by_other_deeds(self):
        one, other = Land(50), Land(50)
        one.grant("", "hill", "ann", 20, 4)
        one.grant("", "dale", "bob", 5, 1)
        other.grant("", "dale", "cat", 5, 1)
        other.grant("", "hill", "ann", 20, 4)
        self.check_same(one, other, False)
        other.convey("dale", "bob")
        self.check_same(one, other, True)
        other.grant("hill", "fen", "ann", 1, 1)
        self.check_same(one, other, False)
        other.fall_back("fen")
        self.check_same(one, other, True)

    def test_alike_in_all_but_a_lord(self):
        one, other = Land(50), Land(50)
        for land in (one, other):
            land.grant("", "a", "ann", 10, 1)
            land.grant("", "b", "bob", 10, 1)
        one.grant("a", "x", "cat", 5, 1)
        one.grant("b", "y", "cat", 5, 1)
        other.grant("a", "y", "cat", 5, 1)
        other.grant("b", "x", "cat", 5, 1)
        self.check_same(one, other, False)

    def test_alike_in_all_but_a_holder(self):
        one, other = some_land(), some_land()
        other.convey("glen", "ann")
        self.check_same(one, other, False)

    def test_alike_in_all_but_own_acres(self):
        one, other = Land(50), Land(50)
        for land, acres in ((one, 5), (other, 6)):
            land.grant("", "hill", "ann", acres, 1)
        self.check_same(one, other, False)

    def test_alike_in_all_but_a_service(self):
        one, other = Land(50), Land(50)
        for land, service in ((one, 1), (other, 2)):
            land.grant("", "hill", "ann", 5, service)
        self.check_same(one, other, False)

    def test_alike_in_all_but_a_name(self):
        one, other = Land(50), Land(50)
        one.grant("", "hill", "ann", 5, 1)
        other.grant("", "hills", "ann", 5, 1)
        self.check_same(one, other, False)

    def test_one_estate_more(self):
        one, other = Land(50), Land(50)
        for land in (one, other):
            land.grant("", "hill", "ann", 5, 6)
            land.part_off("hill", "moor", "ann", 5)
        other.fall_back("hill")
        self.check_same(one, other, False)

    def test_a_twin_and_its_twin_go_their_own_ways(self):
        land = some_land()
        other = land.twin()
        third = other.twin()
        before = picture(land)
        self.assertIsInstance(other, Land)
        self.assertIsNot(other, land)
        for one in (other, third):
            self.check_same(land, one, True)
            self.assertEqual(picture(one), before)
        other.fall_back("hill")
        self.assertEqual((picture(land), picture(third)), (before, before))
        third.part_off("hill", "fen", "eve", 3)
        third.convey("moor", "eve")
        self.assertEqual(picture(land), before)
        self.assertFalse(other.there("fen") or other.there("hill") or land.there("fen"))
        land.grant("moor", "knoll", "dan", 30, 1)
        self.assertEqual((land.breadth("moor"), land.own("moor")), (40, 10))
        self.assertEqual((third.own("moor"), other.own("moor")), (40, 40))
        self.check_same(land, other, False)
        self.check_same(land, third, False)
        self.check_same(other, third, False)

    def test_lists_told_may_be_changed(self):
        land = some_land()
        before, twin = picture(land), land.twin()
        for told in (land.estates, land.folk, lambda: land.held("ann"), lambda: land.held(""),
                     lambda: land.under("hill"), lambda: land.under(""), lambda: land.chain("glen")):
            first = told()
            kept = list(first)
            self.assertIs(type(first), list)
            first.append("more")
            first[0] = "other"
            self.assertEqual(told(), kept)
            told().clear()
            self.assertEqual(told(), kept)
        self.assertEqual(picture(land), before)
        self.check_same(land, twin, True)
        self.assertIs(type(land.service("dale")), tuple)


class ManyDeeds(unittest.TestCase):
    def test_as_the_slow_land_tells(self):
        for seed in range(30):
            dice, land, slow, names = Dice(seed), Land(200), SlowLand(200), [""]
            for at in range(40):
                new, man = "n" + "abcdefghijklmnopqrstuvwxyz"[at % 26] * (at // 26 + 1), dice.of(["ann", "bob", "cat"])
                estate = dice.of(names)
                acres = min(land.own(estate), 1 + dice.below(30))
                deed = dice.of(["grant", "grant", "part_off", "part_off", "convey", "fall_back"])
                if estate == "" and deed != "grant" or deed in ("grant", "part_off") and acres == 0:
                    continue
                things = {"grant": (estate, new, man, acres, dice.below(20)), "part_off": (estate, new, man, acres),
                          "convey": (estate, man), "fall_back": (estate,)}[deed]
                self.assertIsNone(getattr(land, deed)(*things))
                getattr(slow, deed)(*things)
                names = sorted(slow.all)
                self.assertEqual(picture(land), slow.picture())
                self.assertEqual(land.estates(), names[1:])
                self.assertEqual(land.folk(), sorted({estate["holder"] for estate in slow.all.values()}))
                for man in ("", "ann", "bob", "cat", "dan"):
                    self.assertEqual(land.held(man), slow.held(man))


if __name__ == "__main__":
    unittest.main()
