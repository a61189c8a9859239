import itertools
import unittest

from manrent.charters import check_row, is_name, judged_order
from manrent.errors import (
    LandError, NoEntry, NoEstate, NoForm, NoLand, NoMan, NoQuarrel, NoText, NothingThere, Twice,
)

OTHERS = (NoEntry, Twice, NothingThere, NoEstate, NoMan, NoQuarrel, NoLand, NoText)

WELL_MADE = [
    ("heir", 4, "ann", "bob"),
    ("grant", 5, "hill", "dale", "ann", 30, 2),
    ("part", 6, "hill", "moor", "bob", 7),
    ("convey", 7, "hill", "cat"),
    ("liege", 8, "ann", "bob"),
    ("surrender", 9, "hill"),
    ("death", 10, "ann"),
]
# The places of each sort in each kind.
NAMES = {"heir": (2, 3), "grant": (3, 4), "part": (2, 3, 4), "convey": (2, 3),
         "liege": (2,), "surrender": (2,), "death": (2,)}
NAMES_OR_CROWN = {"grant": 2, "liege": 3}
ACRES = {"grant": 5, "part": 5}
SERVICES = {"grant": 6}
GOOD_NAMES = ("a", "z", "abcdefgh", "zzzzzzzz", "heir", "crown")
BAD_NAMES = ("abcdefghi", "a" * 40, "Ann", "anN", "A", "Z", "a1", "0", "9", "a b", " ", " ann", "ann ",
             "ann\n", "\nann", "\n", "a\nb", "`", "{", "a`", "a{", "-", "ann-", "a_b", "a.b", "~", "@", "[")


def changed(row, place, piece):
    return row[:place] + (piece,) + row[place + 1:]


class Names(unittest.TestCase):
    def test_names(self):
        for text in GOOD_NAMES + tuple("abcdefghijklmnopqrstuvwxyz"):
            with self.subTest(text=text):
                self.assertIs(is_name(text), True)

    def test_no_names(self):
        for text in ("",) + BAD_NAMES:
            with self.subTest(text=text):
                self.assertIs(is_name(text), False)

    def test_lengths(self):
        for count in range(12):
            with self.subTest(count=count):
                self.assertIs(is_name("q" * count), 1 <= count <= 8)

    def test_every_sign_by_itself_and_within(self):
        for code in [10] + list(range(32, 127)):
            sign = chr(code)
            good = sign in "abcdefghijklmnopqrstuvwxyz"
            for text in (sign, sign + "ab", "a" + sign + "b", "ab" + sign):
                with self.subTest(text=text):
                    self.assertIs(is_name(text), good)


class Rows(unittest.TestCase):
    def stands(self, row):
        with self.subTest(row=row):
            self.assertIsNone(check_row(row))

    def refused(self, row):
        with self.subTest(row=row):
            with self.assertRaises(NoForm) as held:
                check_row(row)
            self.assertIsInstance(held.exception, LandError)
            self.assertIsInstance(held.exception, ValueError)
            self.assertNotIsInstance(held.exception, OTHERS)

    def test_each_kind(self):
        for row in WELL_MADE:
            self.stands(row)

    def test_days(self):
        for row in WELL_MADE:
            for day in (0, 1, 9998, 9999):
                self.stands(changed(row, 1, day))
            for day in (-1, 10000, -9999, 123456):
                self.refused(changed(row, 1, day))

    def test_acres(self):
        for row in WELL_MADE:
            if row[0] in ACRES:
                for acres in (1, 2, 9998, 9999):
                    self.stands(changed(row, ACRES[row[0]], acres))
                for acres in (0, -1, 10000, 123456):
                    self.refused(changed(row, ACRES[row[0]], acres))

    def test_services(self):
        for row in WELL_MADE:
            if row[0] in SERVICES:
                for service in (0, 1, 9998, 9999):
                    self.stands(changed(row, SERVICES[row[0]], service))
                for service in (-1, -9999, 10000, 123456):
                    self.refused(changed(row, SERVICES[row[0]], service))

    def test_names(self):
        for row in WELL_MADE:
            for place in NAMES[row[0]]:
                for name in GOOD_NAMES:
                    self.stands(changed(row, place, name))
                for name in BAD_NAMES:
                    self.refused(changed(row, place, name))

    def test_names_where_the_crown_may_stand(self):
        for row in WELL_MADE:
            if row[0] in NAMES_OR_CROWN:
                for name in ("",) + GOOD_NAMES:
                    self.stands(changed(row, NAMES_OR_CROWN[row[0]], name))
                for name in BAD_NAMES:
                    self.refused(changed(row, NAMES_OR_CROWN[row[0]], name))

    def test_the_crown_elsewhere(self):
        for row in WELL_MADE:
            for place in NAMES[row[0]]:
                self.refused(changed(row, place, ""))
        self.refused(("liege", 8, "", ""))
        self.refused(("heir", 4, "", ""))

    def test_like_names_of_two_men(self):
        self.refused(("heir", 4, "ann", "ann"))
        self.refused(("liege", 8, "ann", "ann"))
        self.stands(("heir", 4, "ann", "anna"))
        self.stands(("liege", 8, "anna", "ann"))

    def test_like_names_elsewhere(self):
        self.stands(("grant", 5, "hill", "hill", "hill", 30, 30))
        self.stands(("part", 6, "hill", "hill", "hill", 7))
        self.stands(("convey", 7, "hill", "hill"))

    def test_another_first_word(self):
        for row in WELL_MADE:
            word = row[0]
            for other in ("", "-", "feu", word.upper(), word + " ", " " + word, word + "s", word[:-1], word + "\n"):
                self.refused((other,) + row[1:])

    def test_another_first_word_with_anything_behind(self):
        for row in (("feu",), ("",), ("feu", "ann"), ("feu", 1, 2, 3, 4, 5, 6, 7), ("feu", None, [1])):
            self.refused(row)

    def test_the_word_of_another_kind(self):
        rows = {row[0]: row for row in WELL_MADE}
        for long, short in (("heir", "death"), ("convey", "surrender"), ("liege", "death")):
            self.refused((long,) + rows[short][1:])
            self.refused((short,) + rows[long][1:])

    def test_first_word_alone(self):
        for row in WELL_MADE:
            self.refused(row[:1])

    def test_too_few_parts(self):
        for row in WELL_MADE:
            for count in range(1, len(row)):
                self.refused(row[:count])

    def test_too_many_parts(self):
        for row in WELL_MADE:
            for more in ("ann", "", 1, 0, None):
                self.refused(row + (more,))
            self.refused(row + ("ann", "bob"))

    def test_asked_twice(self):
        for twice in range(2):
            self.stands(WELL_MADE[0])
            self.refused(("heir", 4, "ann", "ann"))

    def test_numbers_of_many_figures(self):
        self.refused(("death", 10 ** 5000, "ann"))
        self.refused(("part", 6, "hill", "moor", "bob", 10 ** 5000))


class Order(unittest.TestCase):
    def ordered(self, expected):
        """Whatever the order in which they come, the rows are told in that one."""
        turned = [expected[at:] + expected[:at] for at in range(len(expected))]
        for rows in turned + [row[::-1] for row in turned] + [sorted(expected)]:
            before = list(rows)
            with self.subTest(rows=rows):
                answer = judged_order(rows)
                self.assertEqual(answer, expected)
                self.assertIs(type(answer), list)
                self.assertIsNot(answer, rows)
                self.assertEqual(rows, before)

    def test_none_and_one(self):
        rows = []
        self.assertEqual(judged_order(rows), [])
        self.assertIsNot(judged_order(rows), rows)
        self.ordered([("death", 3, "ann")])

    def test_kinds_on_one_day(self):
        self.ordered([changed(row, 1, 5) for row in WELL_MADE])

    def test_kinds_on_one_day_in_every_order(self):
        expected = [changed(row, 1, 5) for row in WELL_MADE]
        for rows in itertools.permutations(expected):
            self.assertEqual(judged_order(list(rows)), expected)

    def test_days_ahead_of_kinds(self):
        self.ordered([changed(row, 1, 20 - at) for at, row in enumerate(WELL_MADE)][::-1])

    def test_days_are_numbers(self):
        self.ordered([("death", day, "ann") for day in (0, 2, 9, 10, 99, 100, 1000, 9999)])

    def test_kinds_on_several_days(self):
        self.ordered([changed(row, 1, day) for day in (0, 9, 10, 9999) for row in WELL_MADE])

    def test_alike_but_for_the_last_part(self):
        lasts = {"heir": ("bo", "bob", "cat"), "grant": (0, 9, 10, 9999), "part": (1, 9, 10),
                 "convey": ("ann", "b", "ba"), "liege": ("", "bob", "cat"),
                 "surrender": ("a", "hill", "hilla"), "death": ("ann", "anna", "bob")}
        expected = []
        for day in (3, 20):
            for row in WELL_MADE:
                expected += [changed(row[:-1], 1, day) + (last,) for last in lasts[row[0]]]
        self.ordered(expected)

    def test_tuples_from_their_first_part_on(self):
        self.ordered([
            ("grant", 1, "", "b", "b", 9, 9),
            ("grant", 1, "a", "a", "b", 9, 9),
            ("grant", 1, "a", "b", "a", 9, 9),
            ("grant", 1, "a", "b", "b", 1, 9),
            ("grant", 1, "a", "b", "b", 9, 1),
            ("grant", 1, "a", "b", "b", 10, 0),
            ("grant", 1, "b", "a", "a", 1, 0),
        ])

    def test_a_new_list_each_time(self):
        rows = [("death", 3, "bob"), ("death", 3, "ann")]
        first = judged_order(rows)
        first.append(("death", 4, "cat"))
        self.assertEqual(rows, [("death", 3, "bob"), ("death", 3, "ann")])
        second = judged_order(rows)
        self.assertEqual(second, [("death", 3, "ann"), ("death", 3, "bob")])
        rows.append(("heir", 3, "ann", "bob"))
        self.assertEqual(second, [("death", 3, "ann"), ("death", 3, "bob")])

    def test_a_list_in_order_is_not_told_back_itself(self):
        rows = [("death", 3, "ann"), ("death", 3, "bob")]
        self.assertIsNot(judged_order(rows), rows)


if __name__ == "__main__":
    unittest.main()
