"""Point 15: what at least need of some stretches hold, and the most that agree; and what point 2 says of them."""

import itertools
import unittest

from gaze.stretches import gathered
from gaze.votes import agree, most_agree
from tests.helper import GREAT, GREATEST, Draws, is_held

ENDS = [None, -2, -1, 0, 1, 2]
SMALL = [
    (lo, hi) for lo, hi in itertools.product(ENDS, repeat=2)
    if lo is None or hi is None or lo <= hi
]
# Beyond the ends by enough to show a None at either end.
NUMBERS = range(-5, 6)


def votes_of(some, number):
    return len([one for one in some if is_held(one, number)])


class VotesCase(unittest.TestCase):
    def assert_agree(self, some, need, told):
        for order in itertools.permutations(some):
            self.assertEqual(agree(list(order), need), told)

    def assert_most(self, some, number, told):
        for order in itertools.permutations(some):
            self.assertEqual(most_agree(list(order)), (number, told))

    def assert_gathered(self, told):
        self.assertIs(type(told), list)
        self.assertEqual(gathered(told), told)
        for one in told:
            self.assertIs(type(one), tuple)


class AgreeTest(VotesCase):
    def test_no_stretches(self):
        self.assertEqual(agree([], -1), [(None, None)])
        self.assertEqual(agree([], 0), [(None, None)])
        self.assertEqual(agree([], 1), [])
        self.assertEqual(agree([], GREAT), [])

    def test_need_nought_or_less(self):
        for some in [[(1, 2)], [(1, 2), (4, 5)], [(None, 3)], [(None, None)]]:
            for need in [0, -1, -2, -GREAT]:
                self.assert_agree(some, need, [(None, None)])

    def test_need_above_the_number_of_stretches(self):
        for some in [[(1, 2)], [(1, 2), (1, 2)], [(None, None), (None, None), (3, 4)]]:
            for need in [len(some) + 1, len(some) + 2, GREAT]:
                self.assert_agree(some, need, [])

    def test_need_one_is_all_that_is_held(self):
        self.assert_agree([(1, 2)], 1, [(1, 2)])
        self.assert_agree([(1, 2), (8, 9), (4, 5)], 1, [(1, 2), (4, 5), (8, 9)])
        self.assert_agree([(1, 5), (3, 9)], 1, [(1, 9)])

    def test_need_all_is_what_all_hold(self):
        self.assert_agree([(1, 5), (3, 9), (2, 4)], 3, [(3, 4)])
        self.assert_agree([(1, 5), (5, 9)], 2, [(5, 5)])
        self.assert_agree([(1, 5), (6, 9)], 2, [])

    def test_each_need(self):
        some = [(0, 10), (2, 8), (4, 6), (5, 5)]
        told = [[(None, None)], [(0, 10)], [(2, 8)], [(4, 6)], [(5, 5)], []]
        for need, wanted in enumerate(told):
            self.assert_agree(some, need, wanted)

    def test_overlapping(self):
        some = [(0, 4), (2, 6), (5, 9)]
        self.assert_agree(some, 1, [(0, 9)])
        self.assert_agree(some, 2, [(2, 6)])
        self.assert_agree(some, 3, [])
        self.assert_agree([(0, 4), (3, 9), (7, 12)], 2, [(3, 4), (7, 9)])

    def test_touching(self):
        self.assert_agree([(1, 2), (3, 4)], 1, [(1, 4)])
        self.assert_agree([(1, 2), (3, 4)], 2, [])
        self.assert_agree([(1, 3), (3, 4)], 2, [(3, 3)])
        self.assert_agree([(None, 0), (1, None)], 1, [(None, None)])
        self.assert_agree([(None, 0), (1, None)], 2, [])

    def test_apart(self):
        self.assert_agree([(1, 2), (4, 5)], 1, [(1, 2), (4, 5)])
        self.assert_agree([(-9, -9), (-7, -7)], 1, [(-9, -9), (-7, -7)])
        self.assert_agree([(1, 2), (8, 9)], 2, [])

    def test_twice(self):
        self.assert_agree([(1, 2), (1, 2)], 1, [(1, 2)])
        self.assert_agree([(1, 2), (1, 2)], 2, [(1, 2)])
        self.assert_agree([(1, 2), (1, 2), (2, 3)], 2, [(1, 2)])
        self.assert_agree([(1, 2), (1, 2), (2, 3)], 3, [(2, 2)])
        self.assert_agree([(None, 5), (None, 5), (None, None)], 3, [(None, 5)])

    def test_neighbours_are_gathered(self):
        # 3 and 4 each lie in two of these, but in other two.
        self.assert_agree([(1, 3), (4, 6), (3, 4)], 2, [(3, 4)])
        self.assert_agree([(0, 1), (2, 3), (4, 5)], 1, [(0, 5)])
        self.assert_agree([(0, 9), (0, 4), (5, 9)], 2, [(0, 9)])
        self.assert_agree([(None, None), (None, 4), (5, None)], 2, [(None, None)])

    def test_open_ends(self):
        self.assert_agree([(None, 5), (3, None)], 1, [(None, None)])
        self.assert_agree([(None, 5), (3, None)], 2, [(3, 5)])
        self.assert_agree([(None, 3), (5, None)], 1, [(None, 3), (5, None)])
        self.assert_agree([(None, 3), (5, None)], 2, [])
        self.assert_agree([(None, 3), (None, 5)], 2, [(None, 3)])
        self.assert_agree([(3, None), (5, None)], 2, [(5, None)])
        self.assert_agree([(None, None), (0, 0)], 2, [(0, 0)])
        self.assert_agree([(None, 0), (0, None)], 2, [(0, 0)])
        self.assert_agree([(None, None), (None, 0), (3, None)], 2, [(None, 0), (3, None)])

    def test_very_great_numbers(self):
        some = [(-GREATEST, GREAT), (GREAT, GREATEST), (GREAT + 1, None)]
        self.assert_agree(some, 1, [(-GREATEST, None)])
        self.assert_agree(some, 2, [(GREAT, GREATEST)])
        self.assert_agree(some, 3, [])
        self.assert_agree([(GREAT, GREAT), (GREAT + 2, GREAT + 2)], 1, [(GREAT, GREAT), (GREAT + 2, GREAT + 2)])

    def test_a_hundred(self):
        some = [(number, number + 9) for number in range(100)]
        self.assertEqual(agree(some, 10), [(9, 99)])
        self.assertEqual(agree(some, 11), [])
        self.assertEqual(agree([(0, 0)] * 100, 100), [(0, 0)])

    def assert_by_numbers(self, some, need):
        told = agree(some, need)
        self.assert_gathered(told)
        for number in NUMBERS:
            held = any(is_held(one, number) for one in told)
            self.assertEqual(held, votes_of(some, number) >= need, (some, need, number))
        # Beyond the greatest end all goes on as at the last number looked at.
        self.assertEqual([one for one in told if one[1] is None] != [], votes_of(some, 5) >= need)
        self.assertEqual([one for one in told if one[0] is None] != [], votes_of(some, -5) >= need)

    def test_small_ones_against_the_numbers_that_they_hold(self):
        for some in itertools.product(SMALL, repeat=2):
            for need in range(-1, 4):
                self.assert_by_numbers(list(some), need)
        draws = Draws()
        for _ in range(1000):
            some = [draws.one_of(SMALL) for _ in range(draws.number(0, 6))]
            for need in range(len(some) + 2):
                self.assert_by_numbers(some, need)


class MostAgreeTest(VotesCase):
    def test_no_stretches(self):
        self.assertEqual(most_agree([]), (0, [(None, None)]))

    def test_one(self):
        for one in SMALL:
            self.assertEqual(most_agree([one]), (1, [one]))

    def test_held_by_one_place(self):
        self.assert_most([(1, 5), (3, 9), (4, 4)], 3, [(4, 4)])
        self.assert_most([(1, 5), (3, 9), (7, 12), (4, 6)], 3, [(4, 5)])
        self.assert_most([(1, 2), (1, 2)], 2, [(1, 2)])
        self.assert_most([(None, 5), (3, None)], 2, [(3, 5)])
        self.assert_most([(None, None), (None, None)], 2, [(None, None)])

    def test_held_by_several_places(self):
        self.assert_most([(1, 2), (8, 9)], 1, [(1, 2), (8, 9)])
        self.assert_most([(0, 4), (3, 9), (7, 12)], 2, [(3, 4), (7, 9)])
        self.assert_most([(None, 0), (None, None), (3, None)], 2, [(None, 0), (3, None)])
        self.assert_most([(1, 1), (3, 3), (5, 5), (1, 3)], 2, [(1, 1), (3, 3)])

    def test_neighbours_are_gathered(self):
        self.assert_most([(1, 2), (3, 4)], 1, [(1, 4)])
        self.assert_most([(1, 3), (4, 6), (3, 4)], 2, [(3, 4)])
        self.assert_most([(None, None), (None, 4), (5, None)], 2, [(None, None)])

    def test_very_great_numbers(self):
        self.assert_most([(-GREATEST, GREAT), (GREAT, GREATEST), (GREAT + 1, None)], 2, [(GREAT, GREATEST)])

    def test_small_ones_against_the_numbers_that_they_hold(self):
        draws = Draws(7)
        for _ in range(1500):
            some = [draws.one_of(SMALL) for _ in range(draws.number(0, 6))]
            told = most_agree(some)
            self.assertIs(type(told), tuple)
            self.assertEqual(len(told), 2)
            self.assertIs(type(told[0]), int)
            self.assertEqual(told[0], max(votes_of(some, number) for number in NUMBERS))
            self.assert_gathered(told[1])
            self.assertEqual(told[1], agree(some, told[0]))
            for number in NUMBERS:
                held = any(is_held(one, number) for one in told[1])
                self.assertEqual(held, votes_of(some, number) == told[0])


class AskersOwnTest(unittest.TestCase):
    def setUp(self):
        self.some = [(5, 9), (None, 0), (1, 7), (5, 9), (20, None)]
        self.before = list(self.some)

    def test_the_list_handed_in_stays(self):
        for need in range(-1, 7):
            agree(self.some, need)
        most_agree(self.some)
        self.assertEqual(self.some, self.before)

    def test_a_told_list_may_be_changed_and_the_next_one_is_as_before(self):
        for some in [[], [(1, 2)], self.some]:
            before = list(some)
            for ask in [lambda: agree(some, 0), lambda: agree(some, 1), lambda: most_agree(some)[1]]:
                told = ask()
                kept = list(told)
                told.append((100, 200))
                told[0] = (0, 0)
                self.assertEqual(some, before)
                self.assertEqual(ask(), kept)

    def test_what_was_told_stays(self):
        one = agree(self.some, 2)
        most = most_agree(self.some)
        self.some.clear()
        agree([(7, 8)], 1)
        most_agree([(7, 8)])
        self.assertEqual(one, [(5, 9)])
        self.assertEqual(most, (3, [(5, 7)]))


if __name__ == "__main__":
    unittest.main()
