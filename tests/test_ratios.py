"""Points 4 and 5: ratios, and what point 2 says of them."""

import itertools
import math
import unittest
from fractions import Fraction

from gaze.errors import NoRatio
from gaze.ratios import floored, minus, plus, raised, ratio, times, under

GREAT = 10 ** 59 + 7
GREATER = 3 ** 600

SMALL = [ratio(top, bottom) for top in range(-7, 8) for bottom in range(1, 7)]
SOME = SMALL + [
    ratio(GREAT, 3), ratio(-GREAT, 3), ratio(GREAT, GREATER), ratio(-GREATER, GREAT), ratio(1, GREATER),
]


def as_fraction(one):
    return Fraction(one[0], one[1])


class RatioCase(unittest.TestCase):
    def assert_ratio(self, told, fraction):
        self.assertIs(type(told), tuple)
        self.assertEqual([type(part) for part in told], [int, int])
        self.assertEqual(told, (fraction.numerator, fraction.denominator))


class MakingTest(RatioCase):
    def test_ordinary(self):
        self.assertEqual(ratio(3, 4), (3, 4))
        self.assertEqual(ratio(6, 8), (3, 4))
        self.assertEqual(ratio(8, 4), (2, 1))
        self.assertEqual(ratio(5, 5), (1, 1))
        self.assertEqual(ratio(1, 9), (1, 9))

    def test_below_nought_on_either_side(self):
        self.assertEqual(ratio(-6, 8), (-3, 4))
        self.assertEqual(ratio(6, -8), (-3, 4))
        self.assertEqual(ratio(-6, -8), (3, 4))
        self.assertEqual(ratio(1, -1), (-1, 1))

    def test_nought(self):
        for bottom in [1, 2, 17, -1, -5, GREAT, -GREAT]:
            self.assertEqual(ratio(0, bottom), (0, 1))

    def test_second_number_nought_is_refused(self):
        for top in [0, 1, -1, 12, GREAT, -GREAT]:
            with self.subTest(top=top), self.assertRaises(NoRatio):
                ratio(top, 0)

    def test_very_great_numbers(self):
        self.assertEqual(ratio(GREAT * 6, GREAT * 4), (3, 2))
        self.assertEqual(ratio(GREAT * 6, GREAT * -4), (-3, 2))
        self.assertEqual(ratio(GREAT, GREAT + 1), (GREAT, GREAT + 1))
        self.assertEqual(ratio(-GREATER * 35, GREATER * 21), (-5, 3))
        self.assertEqual(ratio(10 ** 299, 10 ** 298), (10, 1))

    def test_all_small_ones_are_in_lowest_terms(self):
        for top, bottom in itertools.product(range(-30, 31), repeat=2):
            if bottom != 0:
                made = ratio(top, bottom)
                self.assertGreaterEqual(made[1], 1)
                self.assertEqual(math.gcd(made[0], made[1]), 1)
                self.assert_ratio(made, Fraction(top, bottom))


class ReckoningTest(RatioCase):
    def test_ordinary(self):
        self.assertEqual(plus((1, 2), (1, 3)), (5, 6))
        self.assertEqual(minus((1, 2), (1, 3)), (1, 6))
        self.assertEqual(minus((1, 3), (1, 2)), (-1, 6))
        self.assertEqual(times((2, 3), (5, 7)), (10, 21))

    def test_lowest_terms(self):
        self.assertEqual(plus((1, 6), (1, 3)), (1, 2))
        self.assertEqual(plus((1, 2), (-1, 2)), (0, 1))
        self.assertEqual(minus((3, 4), (1, 4)), (1, 2))
        self.assertEqual(minus((-5, 7), (-5, 7)), (0, 1))
        self.assertEqual(times((2, 3), (3, 2)), (1, 1))
        self.assertEqual(times((-2, 3), (3, 4)), (-1, 2))
        self.assertEqual(times((-2, 3), (-3, 4)), (1, 2))
        self.assertEqual(times((0, 1), (-3, 4)), (0, 1))

    def test_against_fractions(self):
        for one, other in itertools.product(SOME, repeat=2):
            self.assert_ratio(plus(one, other), as_fraction(one) + as_fraction(other))
            self.assert_ratio(minus(one, other), as_fraction(one) - as_fraction(other))
            self.assert_ratio(times(one, other), as_fraction(one) * as_fraction(other))


class UnderTest(unittest.TestCase):
    def test_less(self):
        self.assertIs(under((1, 3), (1, 2)), True)
        self.assertIs(under((1, 2), (1, 3)), False)

    def test_equal_is_not_under(self):
        for one in SOME:
            self.assertIs(under(one, one), False)

    def test_below_nought(self):
        self.assertIs(under((-1, 2), (-1, 3)), True)
        self.assertIs(under((-1, 3), (-1, 2)), False)
        self.assertIs(under((-1, 2), (0, 1)), True)
        self.assertIs(under((0, 1), (-1, 2)), False)
        self.assertIs(under((-5, 1), (1, 9)), True)

    def test_very_great_numbers_that_differ_by_little(self):
        self.assertIs(under((GREAT, GREAT + 1), (GREAT + 1, GREAT + 2)), True)
        self.assertIs(under((GREAT + 1, GREAT + 2), (GREAT, GREAT + 1)), False)

    def test_against_fractions(self):
        for one, other in itertools.product(SOME, repeat=2):
            self.assertIs(under(one, other), as_fraction(one) < as_fraction(other))


class FlooredRaisedTest(unittest.TestCase):
    def test_whole(self):
        for number in [0, 1, -1, 7, -7, GREAT, -GREAT]:
            self.assertEqual(floored((number, 1)), number)
            self.assertEqual(raised((number, 1)), number)

    def test_broken_above_nought(self):
        self.assertEqual((floored((7, 2)), raised((7, 2))), (3, 4))
        self.assertEqual((floored((1, 9)), raised((1, 9))), (0, 1))
        self.assertEqual((floored((8, 9)), raised((8, 9))), (0, 1))

    def test_broken_below_nought(self):
        self.assertEqual((floored((-7, 2)), raised((-7, 2))), (-4, -3))
        self.assertEqual((floored((-1, 9)), raised((-1, 9))), (-1, 0))
        self.assertEqual((floored((-8, 9)), raised((-8, 9))), (-1, 0))

    def test_very_great_numbers(self):
        self.assertEqual(floored((2 * GREAT + 1, 2)), GREAT)
        self.assertEqual(raised((2 * GREAT + 1, 2)), GREAT + 1)
        self.assertEqual(floored((-2 * GREAT - 1, 2)), -GREAT - 1)
        self.assertEqual(raised((-2 * GREAT - 1, 2)), -GREAT)

    def test_against_fractions(self):
        for one in SOME:
            self.assertEqual(floored(one), math.floor(as_fraction(one)))
            self.assertEqual(raised(one), math.ceil(as_fraction(one)))
            self.assertEqual([type(floored(one)), type(raised(one))], [int, int])


if __name__ == "__main__":
    unittest.main()
