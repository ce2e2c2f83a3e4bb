"""Points 10 and 11: known points, free leaps and the fewest pieces, and what point 2 says of them."""

import itertools
import unittest
from fractions import Fraction

from gaze.errors import NoGauge
from gaze.fitting import fewest, leaps
from tests.helper import GREAT, GREATEST, Draws


def free_by_fractions(points, error, start, end):
    raw, value = points[start]
    slope = Fraction(points[end][1] - value, points[end][0] - raw)
    between = points[start + 1:end]
    return all(abs(point[1] - (value + slope * (point[0] - raw))) <= error for point in between)


def all_ways(points, error):
    """For each point, all lists of points from 0 to it by free leaps."""
    ways = [[[0]]]
    for end in range(1, len(points)):
        starts = [start for start in range(end) if free_by_fractions(points, error, start, end)]
        ways.append([way + [end] for start in starts for way in ways[start]])
    return ways


def mixed_points(count):
    draws = Draws()
    for _ in range(count):
        length = draws.number(2, 7)
        raws = draws.rising(length, draws.number(-9, 0), 4)
        yield list(zip(raws, draws.numbers(length, -4, 4))), draws.number(0, 4)


class FittingCase(unittest.TestCase):
    def assert_fitted(self, points, error, counts, shortest):
        """shortest: all the shortest lists, any one of which may be told."""
        self.assertEqual(leaps(points, error), counts)
        self.assertIn(fewest(points, error), shortest)


class PointsTest(unittest.TestCase):
    def assert_refused(self, points):
        for error in [0, 1, GREAT]:
            with self.subTest(points=points, error=error):
                with self.assertRaises(NoGauge):
                    leaps(points, error)
                with self.assertRaises(NoGauge):
                    fewest(points, error)

    def test_one_point_or_none_is_refused(self):
        self.assert_refused([])
        self.assert_refused([(0, 0)])

    def test_an_equal_or_lesser_raw_is_refused(self):
        self.assert_refused([(1, 0), (1, 1)])
        self.assert_refused([(1, 0), (0, 1)])
        self.assert_refused([(0, 0), (1, 1), (1, 2)])
        self.assert_refused([(0, 0), (2, 1), (1, 2), (3, 3)])
        self.assert_refused([(0, 0), (1, 1), (0, 2)])
        self.assert_refused([(GREAT, 0), (GREAT, 1)])
        self.assert_refused([(-1, 0), (-2, 0)])

    def test_values_in_any_order(self):
        for values in itertools.product([-1, 0, 1], repeat=3):
            points = list(zip([0, 1, 2], values))
            self.assertEqual(leaps(points, 5), [0, 1, 1])
            self.assertEqual(fewest(points, 5), [0, 2])


class LeapsTest(FittingCase):
    def test_two_points(self):
        for error in [0, 1, GREAT]:
            self.assert_fitted([(0, 0), (1, 100)], error, [0, 1], [[0, 1]])
            self.assert_fitted([(-5, 7), (5, 7)], error, [0, 1], [[0, 1]])

    def test_on_a_line(self):
        points = [(0, 1), (1, 3), (4, 9), (6, 13), (7, 15)]
        for error in [0, 1, 5]:
            self.assert_fitted(points, error, [0, 1, 1, 1, 1], [[0, 4]])

    def test_on_a_falling_and_a_level_line(self):
        self.assert_fitted([(0, 9), (1, 7), (3, 3), (5, -1)], 0, [0, 1, 1, 1], [[0, 3]])
        self.assert_fitted([(-3, 4), (0, 4), (3, 4)], 0, [0, 1, 1], [[0, 2]])

    def test_off_the_line_by_just_the_error_and_by_one_more(self):
        for error in [0, 1, 2, 17, GREAT]:
            for sign in [1, -1]:
                near = [(0, 0), (1, 2 + sign * error), (2, 4)]
                self.assert_fitted(near, error, [0, 1, 1], [[0, 2]])
                far = [(0, 0), (1, 2 + sign * (error + 1)), (2, 4)]
                self.assert_fitted(far, error, [0, 1, 2], [[0, 1, 2]])

    def test_a_line_between_whole_numbers(self):
        # At raw 1 the line lies at 1/3, so 1 lies 2/3 above it, 2 lies 5/3 above it, -1 lies 4/3 below it.
        self.assert_fitted([(0, 0), (1, 1), (3, 1)], 1, [0, 1, 1], [[0, 2]])
        self.assert_fitted([(0, 0), (1, 1), (3, 1)], 0, [0, 1, 2], [[0, 1, 2]])
        self.assert_fitted([(0, 0), (1, 2), (3, 1)], 1, [0, 1, 2], [[0, 1, 2]])
        self.assert_fitted([(0, 0), (1, -1), (3, 1)], 1, [0, 1, 2], [[0, 1, 2]])
        self.assert_fitted([(0, 0), (1, 2), (3, 1)], 2, [0, 1, 1], [[0, 2]])
        self.assert_fitted([(0, 0), (1, -1), (3, 1)], 2, [0, 1, 1], [[0, 2]])

    def test_each_point_between_counts(self):
        # The first, the last and an inner one of those between lie off; the others lie on the line.
        for off in [1, 2, 3]:
            points = [(raw, 5 if raw == off else 0) for raw in range(5)]
            self.assertGreater(leaps(points, 4)[4], 1)
            self.assertEqual(leaps(points, 5)[4], 1)

    def test_a_corner(self):
        points = [(0, 0), (1, 1), (2, 2), (3, 1), (4, 0)]
        self.assert_fitted(points, 0, [0, 1, 1, 2, 2], [[0, 2, 4]])
        self.assert_fitted(points, 1, [0, 1, 1, 2, 2], [[0, 2, 4]])
        self.assert_fitted(points, 2, [0, 1, 1, 1, 1], [[0, 4]])

    def test_a_saw(self):
        points = [(raw, raw % 2) for raw in range(7)]
        self.assert_fitted(points, 0, [0, 1, 2, 3, 4, 5, 6], [[0, 1, 2, 3, 4, 5, 6]])
        self.assert_fitted(points, 1, [0, 1, 1, 1, 1, 1, 1], [[0, 6]])

    def test_a_later_point_may_need_fewer_leaps(self):
        self.assert_fitted([(0, 0), (1, 3), (2, 0), (3, 3)], 2, [0, 1, 2, 1], [[0, 3]])

    def test_going_as_far_as_one_can_is_not_always_best(self):
        # The farthest free leap from point 0 leads to point 2, but only point 1 has a free leap to the last one.
        points = [(-4, 0), (0, -3), (2, -3), (6, 0), (9, 0)]
        self.assert_fitted(points, 1, [0, 1, 1, 2, 2], [[0, 1, 4]])

    def test_several_shortest_ones(self):
        self.assert_fitted([(0, 0), (1, 1), (2, 4), (3, 9)], 1, [0, 1, 1, 2], [[0, 1, 3], [0, 2, 3]])

    def test_small_ones_against_all_ways(self):
        for points, error in mixed_points(600):
            ways = all_ways(points, error)
            counts = leaps(points, error)
            self.assertEqual(counts, [min(map(len, some)) - 1 for some in ways])
            told = fewest(points, error)
            self.assertIn(told, ways[-1])
            self.assertEqual(len(told) - 1, counts[-1])
            for one in [counts, told]:
                self.assertIs(type(one), list)
                self.assertEqual({type(part) for part in one}, {int})

    def test_very_great_numbers(self):
        # The middle point lies at the middle of the line but for the error, and for one more.
        for error in [0, 1, GREAT, GREATEST]:
            points = [(-GREATEST, -GREATEST), (0, error), (GREATEST, GREATEST)]
            self.assert_fitted(points, error, [0, 1, 1], [[0, 2]])
            points = [(-GREATEST, -GREATEST), (0, -error - 1), (GREATEST, GREATEST)]
            self.assert_fitted(points, error, [0, 1, 2], [[0, 1, 2]])
        points = [(0, 0), (GREAT, 1), (2 * GREAT + 1, 2), (GREATEST, GREATEST)]
        self.assert_fitted(points, 0, [0, 1, 2, 3], [[0, 1, 2, 3]])
        self.assert_fitted(points, 1, [0, 1, 1, 2], [[0, 2, 3], [0, 1, 3]])

    def test_a_hundred_points(self):
        points = [(raw, abs(raw - 50)) for raw in range(100)]
        self.assertEqual(leaps(points, 0), [0] + [1] * 50 + [2] * 49)
        self.assertEqual(fewest(points, 0), [0, 50, 99])


class AskersOwnTest(unittest.TestCase):
    def test_the_list_handed_in_stays(self):
        points = [(0, 0), (1, 1), (2, 2), (3, 1), (4, 0)]
        before = list(points)
        leaps(points, 0)
        fewest(points, 0)
        self.assertEqual(points, before)

    def test_a_told_list_may_be_changed(self):
        points = [(0, 0), (1, 1), (2, 2), (3, 1), (4, 0)]
        for ask in [leaps, fewest]:
            told = ask(points, 0)
            before = list(told)
            told.append(7)
            told[0] = 9
            self.assertEqual(ask(points, 0), before)

    def test_what_was_told_stays(self):
        points = [(0, 0), (1, 1), (2, 2), (3, 1), (4, 0)]
        counts = leaps(points, 0)
        pieces = fewest(points, 0)
        points.clear()
        leaps([(0, 0), (1, 5)], 0)
        fewest([(0, 0), (1, 5)], 0)
        self.assertEqual(counts, [0, 1, 1, 2, 2])
        self.assertEqual(pieces, [0, 2, 4])


if __name__ == "__main__":
    unittest.main()
