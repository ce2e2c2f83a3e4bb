"""Point 9: gauges, and what point 2 says of them."""

import unittest
from fractions import Fraction

from gaze.errors import NoGauge, OffGauge
from gaze.gauges import Gauge
from tests.helper import GREAT, GREATEST, Draws, fraction_of, is_ratio, ratio_of

KNOTS = [(0, 10), (4, 12), (7, 22), (10, 23)]


def forth_by_fractions(knots, raw):
    """What the raw leads to, reckoned apart: None where it is off the gauge."""
    for (raw_a, value_a), (raw_b, value_b) in zip(knots, knots[1:]):
        if raw_a <= raw <= raw_b:
            share = (raw - raw_a) / Fraction(raw_b - raw_a)
            return value_a * (1 - share) + value_b * share
    return None


class GaugeCase(unittest.TestCase):
    def assert_off(self, lead, one):
        with self.subTest(one=one), self.assertRaises(OffGauge):
            lead(one)


class MakingTest(unittest.TestCase):
    def assert_refused(self, knots):
        with self.subTest(knots=knots), self.assertRaises(NoGauge):
            Gauge(knots)

    def test_two_knots_are_enough(self):
        self.assertEqual(Gauge([(0, 0), (1, 1)]).forth((1, 2)), (1, 2))
        self.assertEqual(Gauge([(-2, -1), (-1, 0)]).forth((-3, 2)), (-1, 2))

    def test_one_knot_or_none_is_refused(self):
        self.assert_refused([])
        self.assert_refused([(0, 0)])
        self.assert_refused([(5, GREAT)])

    def test_an_equal_or_lesser_raw_is_refused(self):
        self.assert_refused([(3, 0), (3, 1)])
        self.assert_refused([(3, 0), (2, 1)])
        self.assert_refused([(0, 0), (1, 1), (1, 2)])
        self.assert_refused([(0, 0), (5, 1), (4, 2), (6, 3)])
        self.assert_refused([(0, 0), (5, 1), (0, 2)])
        self.assert_refused([(GREAT, 0), (GREAT, 1)])
        self.assert_refused([(-1, 0), (-2, 1)])

    def test_an_equal_or_lesser_value_is_refused(self):
        self.assert_refused([(0, 3), (1, 3)])
        self.assert_refused([(0, 3), (1, 2)])
        self.assert_refused([(0, 0), (1, 1), (2, 1)])
        self.assert_refused([(0, 0), (1, 5), (2, 4), (3, 6)])
        self.assert_refused([(0, GREAT), (1, GREAT)])
        self.assert_refused([(0, -1), (1, -2)])

    def test_both_equal_or_lesser_are_refused(self):
        self.assert_refused([(1, 1), (1, 1)])
        self.assert_refused([(1, 1), (0, 0)])
        self.assert_refused(KNOTS[::-1])

    def test_a_fault_at_the_last_of_a_hundred_knots(self):
        rising = [(number, 2 * number) for number in range(100)]
        self.assertEqual(Gauge(rising).forth((99, 1)), (198, 1))
        self.assert_refused(rising[:99] + [(98, 300)])
        self.assert_refused(rising[:99] + [(300, 196)])


class ForthTest(GaugeCase):
    def setUp(self):
        self.gauge = Gauge(KNOTS)

    def test_at_each_knot(self):
        for raw, value in KNOTS:
            self.assertEqual(self.gauge.forth((raw, 1)), (value, 1))

    def test_between_knots(self):
        self.assertEqual(self.gauge.forth((1, 1)), (21, 2))
        self.assertEqual(self.gauge.forth((2, 1)), (11, 1))
        self.assertEqual(self.gauge.forth((5, 1)), (46, 3))
        self.assertEqual(self.gauge.forth((8, 1)), (67, 3))
        self.assertEqual(self.gauge.forth((1, 2)), (41, 4))
        self.assertEqual(self.gauge.forth((11, 2)), (17, 1))
        self.assertEqual(self.gauge.forth((17, 2)), (45, 2))

    def test_below_nought(self):
        gauge = Gauge([(-7, -10), (-4, -9), (2, 3)])
        self.assertEqual(gauge.forth((-7, 1)), (-10, 1))
        self.assertEqual(gauge.forth((-5, 1)), (-28, 3))
        self.assertEqual(gauge.forth((-4, 1)), (-9, 1))
        self.assertEqual(gauge.forth((0, 1)), (-1, 1))
        self.assertEqual(gauge.forth((1, 2)), (0, 1))

    def test_off_the_gauge(self):
        for raw in [(-1, 1), (-1, GREAT), (-GREAT, 1), (11, 1), (10 * GREAT + 1, GREAT), (GREAT, 1), (21, 2)]:
            self.assert_off(self.gauge.forth, raw)

    def test_just_at_the_ends_and_within(self):
        self.assertEqual(self.gauge.forth((1, GREAT)), ratio_of(10 + Fraction(1, 2 * GREAT)))
        self.assertEqual(self.gauge.forth((10 * GREAT - 1, GREAT)), ratio_of(23 - Fraction(1, 3 * GREAT)))


class BackTest(GaugeCase):
    def setUp(self):
        self.gauge = Gauge(KNOTS)

    def test_at_each_knot(self):
        for raw, value in KNOTS:
            self.assertEqual(self.gauge.back((value, 1)), (raw, 1))

    def test_between_knots(self):
        self.assertEqual(self.gauge.back((11, 1)), (2, 1))
        self.assertEqual(self.gauge.back((21, 2)), (1, 1))
        self.assertEqual(self.gauge.back((13, 1)), (43, 10))
        self.assertEqual(self.gauge.back((67, 3)), (8, 1))
        self.assertEqual(self.gauge.back((45, 2)), (17, 2))

    def test_off_the_gauge(self):
        for value in [(9, 1), (0, 1), (10 * GREAT - 1, GREAT), (-GREAT, 1), (24, 1), (23 * GREAT + 1, GREAT)]:
            self.assert_off(self.gauge.back, value)

    def test_raws_and_values_of_one_gauge_are_not_mixed_up(self):
        gauge = Gauge([(0, 100), (10, 110)])
        self.assertEqual(gauge.forth((5, 1)), (105, 1))
        self.assertEqual(gauge.back((105, 1)), (5, 1))
        self.assert_off(gauge.forth, (105, 1))
        self.assert_off(gauge.back, (5, 1))


class BothWaysTest(GaugeCase):
    def assert_both_ways(self, knots, raw):
        gauge = Gauge(knots)
        value = gauge.forth(raw)
        self.assertTrue(is_ratio(value), value)
        self.assertEqual(value, ratio_of(forth_by_fractions(knots, fraction_of(raw))))
        self.assertEqual(gauge.back(value), raw)
        self.assertEqual(gauge.forth(gauge.back(value)), value)

    def test_mixed_gauges(self):
        draws = Draws()
        for _ in range(300):
            length = draws.number(2, 6)
            knots = list(zip(draws.rising(length, -9, 7), draws.rising(length, -20, 9)))
            gauge = Gauge(knots)
            for _ in range(10):
                raw = Fraction(draws.number(-60, 90), draws.number(1, 6))
                if forth_by_fractions(knots, raw) is None:
                    self.assert_off(gauge.forth, ratio_of(raw))
                else:
                    self.assert_both_ways(knots, ratio_of(raw))
                value = Fraction(draws.number(-150, 90), draws.number(1, 6))
                if knots[0][1] <= value <= knots[-1][1]:
                    raw = gauge.back(ratio_of(value))
                    self.assertTrue(is_ratio(raw), raw)
                    self.assertEqual(gauge.forth(raw), ratio_of(value))
                else:
                    self.assert_off(gauge.back, ratio_of(value))

    def test_very_great_numbers(self):
        knots = [(-GREATEST, -GREAT), (0, 1), (GREAT, GREATEST)]
        for raw in [(-GREATEST, 1), (-GREATEST, 2), (-1, GREATEST), (0, 1), (1, GREAT), (GREAT - 1, 1), (GREAT, 1)]:
            self.assert_both_ways(knots, raw)
        gauge = Gauge(knots)
        self.assert_off(gauge.forth, (-GREATEST - 1, 1))
        self.assert_off(gauge.forth, (GREAT + 1, 1))
        self.assert_off(gauge.back, (-GREAT - 1, 1))
        self.assert_off(gauge.back, (GREATEST + 1, 1))

    def test_very_great_numbers_that_differ_by_one(self):
        gauge = Gauge([(GREATEST - 1, GREAT), (GREATEST, GREAT + 3)])
        self.assertEqual(gauge.forth((2 * GREATEST - 1, 2)), (2 * GREAT + 3, 2))
        self.assertEqual(gauge.back((GREAT + 1, 1)), (3 * GREATEST - 2, 3))
        with self.assertRaises(NoGauge):
            Gauge([(GREATEST, GREAT), (GREATEST, GREAT + 3)])


class AskersOwnTest(unittest.TestCase):
    def test_the_list_handed_in_stays(self):
        knots = list(KNOTS)
        gauge = Gauge(knots)
        gauge.forth((5, 1))
        gauge.back((15, 1))
        self.assertEqual(knots, KNOTS)

    def test_changing_the_list_afterwards_changes_nothing(self):
        knots = list(KNOTS)
        gauge = Gauge(knots)
        knots[0] = (-100, -100)
        knots.append((1000, 1000))
        self.assertEqual(gauge.forth((1, 1)), (21, 2))
        with self.assertRaises(OffGauge):
            gauge.forth((11, 1))
        with self.assertRaises(OffGauge):
            gauge.back((0, 1))
        knots.clear()
        self.assertEqual(gauge.forth((10, 1)), (23, 1))
        self.assertEqual(gauge.back((10, 1)), (0, 1))

    def test_asking_changes_nothing(self):
        gauge = Gauge(KNOTS)
        for _ in range(3):
            self.assertEqual(gauge.forth((5, 1)), (46, 3))
            self.assertEqual(gauge.back((13, 1)), (43, 10))
            with self.assertRaises(OffGauge):
                gauge.forth((11, 1))

    def test_two_gauges_stand_apart(self):
        one = Gauge([(0, 0), (1, 1)])
        other = Gauge([(0, 5), (1, 9)])
        self.assertEqual([one.forth((1, 1)), other.forth((1, 1))], [(1, 1), (9, 1)])


if __name__ == "__main__":
    unittest.main()
