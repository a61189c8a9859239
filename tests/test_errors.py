import unittest

from manrent.errors import (
    LandError, NoEntry, NoEstate, NoForm, NoLand, NoMan, NoQuarrel, NoText, NothingThere, Twice,
)

NINE = [NoForm, NoEntry, Twice, NothingThere, NoEstate, NoMan, NoQuarrel, NoLand, NoText]


class Errors(unittest.TestCase):
    def test_land_error_is_a_value_error(self):
        self.assertTrue(issubclass(LandError, ValueError))

    def test_each_is_a_land_error(self):
        for one in NINE:
            with self.subTest(one=one.__name__):
                self.assertIs(one.__bases__[0], LandError)
                self.assertIsInstance(one(), LandError)
                self.assertIsInstance(one(), ValueError)

    def test_none_is_under_another(self):
        for one in NINE:
            for other in NINE:
                with self.subTest(one=one.__name__, other=other.__name__):
                    self.assertEqual(issubclass(one, other), one is other)

    def test_names_are_nine_unlike_ones(self):
        self.assertEqual(len(set(NINE)), 9)

    def test_each_is_raised_and_taken_by_its_name(self):
        for one in NINE:
            with self.subTest(one=one.__name__):
                with self.assertRaises(one) as held:
                    raise one("words")
                self.assertEqual(str(held.exception), "words")

    def test_at_is_one_where_nothing_else_is_told(self):
        self.assertEqual(NoText().at, 1)
        self.assertEqual(NoText("words").at, 1)

    def test_at_as_told(self):
        self.assertEqual(NoText("words", 7).at, 7)
        self.assertEqual(NoText(at=3).at, 3)
        self.assertEqual(str(NoText("words", 7)), "words")

    def test_at_is_set_when_an_object_is_made(self):
        seventh, first = NoText("words", 7), NoText("words")
        self.assertEqual((seventh.at, first.at), (7, 1))


if __name__ == "__main__":
    unittest.main()
