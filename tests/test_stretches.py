"""Points 6, 7 and 8: stretches, and what point 2 says of them."""

import itertools
import unittest

from gaze.errors import NoStretch
from gaze.stretches import gathered, holds, hull, meet, stretch, widened

GREAT = 10 ** 59 + 7

ENDS = [None] + list(range(-3, 4))
SMALL = [
    (lo, hi) for lo, hi in itertools.product(ENDS, repeat=2)
    if lo is None or hi is None or lo <= hi
]
# Beyond the ends by enough to show a None at either end, and a gap or none behind each end.
NUMBERS = range(-6, 7)


def is_held(one, number):
    return (one[0] is None or one[0] <= number) and (one[1] is None or number <= one[1])


def held_by_any(some):
    return [number for number in NUMBERS if any(is_held(one, number) for one in some)]


def mixed(count, length):
    """Lists of small stretches, the same ones at each run."""
    seed = 1
    for _ in range(count):
        some = []
        for _ in range(length):
            seed = seed * 48271 % 2147483647
            some.append(SMALL[seed % len(SMALL)])
        yield some


class StretchTest(unittest.TestCase):
    def test_ordinary(self):
        self.assertEqual(stretch(1, 5), (1, 5))
        self.assertEqual(stretch(-5, -1), (-5, -1))
        self.assertEqual(stretch(-GREAT, GREAT), (-GREAT, GREAT))
        self.assertIs(type(stretch(1, 5)), tuple)

    def test_one_number(self):
        self.assertEqual(stretch(3, 3), (3, 3))
        self.assertEqual(stretch(0, 0), (0, 0))

    def test_none_at_either_end_and_at_both(self):
        for number in [5, 0, -5]:
            self.assertEqual(stretch(None, number), (None, number))
            self.assertEqual(stretch(number, None), (number, None))
        self.assertEqual(stretch(None, None), (None, None))

    def test_lo_above_hi_is_refused(self):
        for lo, hi in [(1, 0), (5, 1), (-1, -2), (0, -1), (GREAT + 1, GREAT)]:
            with self.subTest(lo=lo, hi=hi), self.assertRaises(NoStretch):
                stretch(lo, hi)


class HoldsTest(unittest.TestCase):
    def test_at_the_ends_and_beside_them(self):
        self.assertEqual([holds((2, 4), number) for number in range(1, 6)], [False, True, True, True, False])
        self.assertEqual([holds((-2, -2), number) for number in [-3, -2, -1]], [False, True, False])
        self.assertEqual([holds((-1, 0), number) for number in [-2, -1, 0, 1]], [False, True, True, False])

    def test_open_ends(self):
        self.assertEqual([holds((None, 0), number) for number in [-GREAT, -1, 0, 1]], [True, True, True, False])
        self.assertEqual([holds((0, None), number) for number in [-1, 0, 1, GREAT]], [False, True, True, True])
        self.assertEqual([holds((None, None), number) for number in [-GREAT, 0, GREAT]], [True, True, True])

    def test_great_numbers(self):
        one = (GREAT, GREAT + 1)
        self.assertEqual([holds(one, GREAT + by) for by in [-1, 0, 1, 2]], [False, True, True, False])

    def test_all_small_ones(self):
        for one in SMALL:
            for number in NUMBERS:
                self.assertIs(holds(one, number), is_held(one, number))


class MeetTest(unittest.TestCase):
    def assert_meet(self, one, other, told):
        self.assertEqual(meet(one, other), told)
        self.assertEqual(meet(other, one), told)

    def test_ordinary(self):
        self.assert_meet((1, 5), (3, 9), (3, 5))
        self.assert_meet((1, 9), (3, 5), (3, 5))
        self.assert_meet((3, 5), (3, 5), (3, 5))

    def test_at_one_number(self):
        self.assert_meet((1, 3), (3, 9), (3, 3))
        self.assert_meet((None, 0), (0, None), (0, 0))

    def test_nowhere(self):
        self.assert_meet((1, 2), (3, 4), None)
        self.assert_meet((None, -1), (0, None), None)
        self.assert_meet((-GREAT, -GREAT), (GREAT, GREAT), None)

    def test_open_ends(self):
        self.assert_meet((None, None), (None, None), (None, None))
        self.assert_meet((None, None), (1, 2), (1, 2))
        self.assert_meet((None, 5), (None, 3), (None, 3))
        self.assert_meet((5, None), (3, None), (5, None))
        self.assert_meet((None, 0), (None, None), (None, 0))
        self.assert_meet((0, None), (None, None), (0, None))
        self.assert_meet((None, 5), (3, None), (3, 5))

    def test_all_small_ones(self):
        for one, other in itertools.product(SMALL, repeat=2):
            told = meet(one, other)
            both = [number for number in NUMBERS if is_held(one, number) and is_held(other, number)]
            if told is None:
                self.assertEqual(both, [])
            else:
                self.assertIs(type(told), tuple)
                self.assertIn(told, SMALL)
                self.assertEqual(held_by_any([told]), both)
                self.assertEqual(told[0] is None, one[0] is None and other[0] is None)
                self.assertEqual(told[1] is None, one[1] is None and other[1] is None)


class WidenedTest(unittest.TestCase):
    def test_ordinary(self):
        self.assertEqual(widened((1, 5), 2), (-1, 7))
        self.assertEqual(widened((0, 0), 1), (-1, 1))
        self.assertEqual(widened((-5, -5), GREAT), (-5 - GREAT, GREAT - 5))

    def test_by_nought(self):
        for one in SMALL:
            self.assertEqual(widened(one, 0), one)

    def test_open_ends_stay(self):
        self.assertEqual(widened((None, 5), 2), (None, 7))
        self.assertEqual(widened((1, None), 2), (-1, None))
        self.assertEqual(widened((None, 0), 3), (None, 3))
        self.assertEqual(widened((0, None), 3), (-3, None))
        self.assertEqual(widened((None, None), 2), (None, None))


class GatheredTest(unittest.TestCase):
    def assert_gathered(self, some, told):
        for order in itertools.permutations(some):
            self.assertEqual(gathered(list(order)), told)

    def test_of_none_and_of_one(self):
        self.assertEqual(gathered([]), [])
        for one in SMALL:
            self.assertEqual(gathered([one]), [one])

    def test_apart(self):
        self.assert_gathered([(1, 2), (4, 5)], [(1, 2), (4, 5)])
        self.assert_gathered([(1, 2), (10, 20), (-7, -4)], [(-7, -4), (1, 2), (10, 20)])
        self.assert_gathered([(-1, -1), (1, 1)], [(-1, -1), (1, 1)])

    def test_touching(self):
        self.assert_gathered([(1, 2), (3, 4)], [(1, 4)])
        self.assert_gathered([(1, 2), (3, 4), (5, 6), (8, 9)], [(1, 6), (8, 9)])
        self.assert_gathered([(-1, -1), (0, 0), (1, 1)], [(-1, 1)])

    def test_overlapping_alike_and_within(self):
        self.assert_gathered([(1, 5), (3, 9)], [(1, 9)])
        self.assert_gathered([(1, 5), (5, 9)], [(1, 9)])
        self.assert_gathered([(1, 2), (1, 2), (1, 2)], [(1, 2)])
        self.assert_gathered([(1, 9), (3, 5)], [(1, 9)])
        self.assert_gathered([(1, 9), (3, 5), (7, 7), (11, 12)], [(1, 9), (11, 12)])
        self.assert_gathered([(1, 3), (1, 9)], [(1, 9)])
        self.assert_gathered([(1, 2), (4, 5), (2, 4)], [(1, 5)])

    def test_open_ends(self):
        self.assert_gathered([(None, None), (1, 2), (5, None)], [(None, None)])
        self.assert_gathered([(None, 1), (2, None)], [(None, None)])
        self.assert_gathered([(None, 0), (2, None)], [(None, 0), (2, None)])
        self.assert_gathered([(None, 5), (None, 3)], [(None, 5)])
        self.assert_gathered([(5, None), (3, None)], [(3, None)])
        self.assert_gathered([(None, 0), (0, 0)], [(None, 0)])
        self.assert_gathered([(0, None), (9, 12)], [(0, None)])
        self.assert_gathered([(None, -3), (-1, 1), (3, None)], [(None, -3), (-1, 1), (3, None)])

    def test_great_numbers(self):
        self.assert_gathered([(GREAT, GREAT), (GREAT + 1, GREAT + 1)], [(GREAT, GREAT + 1)])
        self.assert_gathered([(GREAT, GREAT), (GREAT + 2, GREAT + 2)], [(GREAT, GREAT), (GREAT + 2, GREAT + 2)])

    def test_a_hundred(self):
        some = [(3 * number, 3 * number + 1) for number in range(100)]
        self.assertEqual(gathered(some[::-1]), some)
        self.assertEqual(gathered([(3 * number, 3 * number + 2) for number in range(100)]), [(0, 299)])

    def assert_is_the_one_list(self, some, told):
        self.assertIs(type(told), list)
        self.assertEqual(held_by_any(told), held_by_any(some))
        for one in told:
            self.assertIs(type(one), tuple)
            self.assertIn(one, SMALL)
        for one, later in zip(told, told[1:]):
            self.assertGreater(later[0], one[1] + 1)

    def test_small_ones_against_the_numbers_that_they_hold(self):
        for some in itertools.product(SMALL, repeat=2):
            self.assert_is_the_one_list(some, gathered(list(some)))
        for some in mixed(2000, 4):
            self.assert_is_the_one_list(some, gathered(some))


class HullTest(unittest.TestCase):
    def test_of_none_and_of_one(self):
        self.assertIsNone(hull([]))
        for one in SMALL:
            self.assertEqual(hull([one]), one)

    def test_of_some(self):
        self.assertEqual(hull([(1, 2), (8, 9), (4, 5)]), (1, 9))
        self.assertEqual(hull([(8, 9), (-4, -2)]), (-4, 9))
        self.assertEqual(hull([(1, 9), (3, 4)]), (1, 9))
        self.assertEqual(hull([(1, 2), (1, 2)]), (1, 2))
        self.assertEqual(hull([(-GREAT, 0), (0, GREAT)]), (-GREAT, GREAT))

    def test_open_ends(self):
        self.assertEqual(hull([(1, 2), (None, 0)]), (None, 2))
        self.assertEqual(hull([(3, None), (1, 2)]), (1, None))
        self.assertEqual(hull([(None, 0), (5, None)]), (None, None))
        self.assertEqual(hull([(None, None), (5, 6)]), (None, None))

    def test_all_small_ones(self):
        for some in itertools.product(SMALL, repeat=2):
            told = hull(list(some))
            self.assertIs(type(told), tuple)
            los = [one[0] for one in some]
            his = [one[1] for one in some]
            self.assertEqual(told[0], None if None in los else min(los))
            self.assertEqual(told[1], None if None in his else max(his))


class AskersOwnTest(unittest.TestCase):
    def test_what_is_handed_in_stays(self):
        some = [(5, 9), (None, 0), (1, 2), (5, 9), (20, 21)]
        before = list(some)
        gathered(some)
        self.assertEqual(some, before)
        hull(some)
        self.assertEqual(some, before)

    def test_a_told_list_may_be_changed(self):
        for some in [[], [(1, 2)], [(1, 2), (5, 6)]]:
            told = gathered(some)
            before = list(told)
            handed = list(some)
            self.assertIsNot(told, some)
            told.append((100, 200))
            told[0] = (0, 0)
            self.assertEqual(some, handed)
            self.assertEqual(gathered(some), before)

    def test_changing_the_list_handed_in_leaves_what_was_told(self):
        some = [(1, 2), (5, 6)]
        told = gathered(some)
        over = hull(some)
        some.clear()
        gathered([(7, 8)])
        hull([(7, 8)])
        self.assertEqual(told, [(1, 2), (5, 6)])
        self.assertEqual(over, (1, 6))


if __name__ == "__main__":
    unittest.main()
