import unittest
from fractions import Fraction

from manrent.parts import minus, part, plus, scaled, total

SMALL = [(top, bottom) for bottom in range(1, 8) for top in range(-9, 10)
         if Fraction(top, bottom).denominator == bottom]
LONG_TOP = 123456789012345678901234567
LONG_BOTTOM = 987654321098765432109876541
LONG = [
    part(LONG_TOP, LONG_BOTTOM),
    part(-LONG_BOTTOM, LONG_TOP),
    part(10 ** 26 + 1, 10 ** 26),
    part(-(10 ** 26), 3 ** 56),
    part(2 ** 88, 3 ** 55),
]
SOME = SMALL + LONG


def pair(fraction):
    return (fraction.numerator, fraction.denominator)


def told(a):
    return Fraction(a[0], a[1])


class Fractions(unittest.TestCase):
    def same(self, answer, fraction):
        self.assertEqual(answer, pair(fraction))
        self.assertIs(type(answer), tuple)
        self.assertEqual([type(number) for number in answer], [int, int])

    def test_part_in_lowest_terms(self):
        self.assertEqual(part(6, 4), (3, 2))
        self.assertEqual(part(3, 2), (3, 2))
        self.assertEqual(part(12, 4), (3, 1))
        self.assertEqual(part(5, 5), (1, 1))

    def test_part_with_signs(self):
        self.assertEqual(part(-6, 4), (-3, 2))
        self.assertEqual(part(6, -4), (-3, 2))
        self.assertEqual(part(-6, -4), (3, 2))
        self.assertEqual(part(1, -1), (-1, 1))
        self.assertEqual(part(-7, -7), (1, 1))

    def test_part_of_nought(self):
        for bottom in (1, 5, -1, -5, 10 ** 27):
            with self.subTest(bottom=bottom):
                self.assertEqual(part(0, bottom), (0, 1))

    def test_part_of_many(self):
        for top in range(-24, 25):
            for bottom in list(range(-24, 0)) + list(range(1, 25)):
                with self.subTest(top=top, bottom=bottom):
                    self.same(part(top, bottom), Fraction(top, bottom))

    def test_part_of_long_numbers(self):
        for measure in (1, 7, 10 ** 13, LONG_TOP):
            for top, bottom in ((LONG_TOP, LONG_BOTTOM), (-LONG_TOP, LONG_BOTTOM),
                                (LONG_TOP, -LONG_BOTTOM), (LONG_BOTTOM, LONG_TOP), (1, LONG_TOP)):
                with self.subTest(measure=measure, top=top, bottom=bottom):
                    self.same(part(top * measure, bottom * measure), Fraction(top, bottom))

    def test_plus(self):
        self.assertEqual(plus((1, 6), (1, 3)), (1, 2))
        self.assertEqual(plus((1, 2), (1, 2)), (1, 1))
        self.assertEqual(plus((1, 2), (-1, 2)), (0, 1))
        self.assertEqual(plus((0, 1), (0, 1)), (0, 1))

    def test_minus(self):
        self.assertEqual(minus((1, 2), (1, 6)), (1, 3))
        self.assertEqual(minus((1, 6), (1, 2)), (-1, 3))
        self.assertEqual(minus((3, 7), (3, 7)), (0, 1))
        self.assertEqual(minus((0, 1), (2, 5)), (-2, 5))

    def test_plus_and_minus_of_many(self):
        for a in SOME:
            for b in SOME:
                with self.subTest(a=a, b=b):
                    self.same(plus(a, b), told(a) + told(b))
                    self.same(minus(a, b), told(a) - told(b))

    def test_scaled(self):
        self.assertEqual(scaled((1, 6), 4), (2, 3))
        self.assertEqual(scaled((1, 6), 6), (1, 1))
        self.assertEqual(scaled((5, 6), 0), (0, 1))
        self.assertEqual(scaled((0, 1), 9), (0, 1))
        self.assertEqual(scaled((1, 6), -4), (-2, 3))
        self.assertEqual(scaled((-1, 6), -9), (3, 2))
        self.assertEqual(scaled((1, 6), 1), (1, 6))

    def test_scaled_of_many(self):
        for a in SOME:
            for many in (-LONG_TOP, -12, -1, 0, 1, 2, 60, LONG_TOP):
                with self.subTest(a=a, many=many):
                    self.same(scaled(a, many), told(a) * many)

    def test_total(self):
        self.assertEqual(total([]), (0, 1))
        self.assertEqual(total([(3, 4)]), (3, 4))
        self.assertEqual(total([(-3, 4)]), (-3, 4))
        self.assertEqual(total([(1, 4), (1, 4)]), (1, 2))
        self.assertEqual(total([(1, 2), (1, 3), (1, 6)]), (1, 1))
        self.assertEqual(total([(1, 2), (-1, 3), (-1, 6)]), (0, 1))

    def test_total_of_many(self):
        self.same(total(SOME), sum([told(a) for a in SOME], Fraction(0)))
        self.same(total(SOME[::-1]), sum([told(a) for a in SOME], Fraction(0)))
        self.same(total([LONG[0], LONG[0]]), told(LONG[0]) * 2)

    def test_total_leaves_the_list(self):
        row = [(1, 2), (1, 3), (1, 2)]
        self.assertEqual(total(row), (4, 3))
        self.assertEqual(row, [(1, 2), (1, 3), (1, 2)])

    def test_total_keeps_nothing(self):
        row = [(1, 2), (1, 3)]
        self.assertEqual(total(row), (5, 6))
        self.assertEqual(total(row), (5, 6))
        row.append((1, 6))
        self.assertEqual(total(row), (1, 1))
        self.assertEqual(total([]), (0, 1))

    def test_asked_twice(self):
        for twice in range(2):
            self.assertEqual(part(6, -4), (-3, 2))
            self.assertEqual(plus((1, 6), (1, 3)), (1, 2))
            self.assertEqual(minus((1, 6), (1, 3)), (-1, 6))
            self.assertEqual(scaled((1, 6), 3), (1, 2))


if __name__ == "__main__":
    unittest.main()
