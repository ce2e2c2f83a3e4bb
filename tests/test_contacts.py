"""Points 12 and 13: how looks settle, and the states of two sills; and what point 2 says of them."""

import itertools
import re
import unittest

from gaze.contacts import by_state, settled, sills
from gaze.errors import NoSills
from tests.helper import GREAT, is_held

STATES = [0, 1, None]


def settled_by_text(looks, many, before):
    """The last run of at least many bits alike, found by a pattern."""
    runs = re.findall("0+|1+", "".join(map(str, looks)))
    long = [run for run in runs if len(run) >= many]
    return int(long[-1][0]) if long else before


def states_by_looking_back(course, low, high):
    states = []
    for turn in range(len(course)):
        outside = [number for number in course[:turn + 1] if number >= high or number <= low]
        states.append(None if not outside else 1 if outside[-1] >= high else 0)
    return states


class SettledTest(unittest.TestCase):
    def assert_settled(self, looks, many, told):
        for before in STATES:
            with self.subTest(looks=looks, many=many, before=before):
                self.assertIs(settled(looks, many, before), before if told is None else told)

    def test_without_looks(self):
        for many in [1, 2, 100, GREAT]:
            self.assert_settled([], many, None)

    def test_looks_alike(self):
        self.assert_settled([0], 1, 0)
        self.assert_settled([1], 1, 1)
        self.assert_settled([1, 1, 1], 3, 1)
        self.assert_settled([0, 0, 0], 3, 0)
        self.assert_settled([0, 0, 0], 2, 0)
        self.assert_settled([1] * 100, 100, 1)

    def test_bouncing(self):
        self.assert_settled([0, 1, 0, 1, 1, 1], 3, 1)
        self.assert_settled([1, 0, 1, 0, 0, 0], 3, 0)
        self.assert_settled([0, 1, 0, 1], 2, None)
        self.assert_settled([1, 1, 0, 1, 0], 2, 1)
        self.assert_settled([0, 0, 0, 1, 1, 0, 1], 2, 1)

    def test_many_one_takes_the_last_look(self):
        self.assert_settled([0, 0, 0, 1], 1, 1)
        self.assert_settled([1, 1, 1, 0], 1, 0)

    def test_the_last_row_that_is_long_enough(self):
        self.assert_settled([0, 0, 0, 1, 1], 2, 1)
        self.assert_settled([0, 0, 0, 1, 1], 3, 0)
        self.assert_settled([1, 1, 0, 0, 1, 1, 0], 2, 1)
        self.assert_settled([0, 0, 1, 0], 2, 0)

    def test_too_few_in_a_row(self):
        self.assert_settled([1], 2, None)
        self.assert_settled([1, 1], 3, None)
        self.assert_settled([1, 1, 0, 1, 1, 0, 1, 1], 3, None)
        self.assert_settled([0] * 99, 100, None)
        self.assert_settled([1] * 100, GREAT, None)

    def test_all_small_ones(self):
        for length in range(8):
            for looks in itertools.product([0, 1], repeat=length):
                for many in range(1, 5):
                    self.assert_settled(list(looks), many, settled_by_text(looks, many, None))

    def test_what_is_told_is_no_truth(self):
        self.assertIs(type(settled([0, 1, 1], 2, None)), int)
        self.assertIs(type(settled([0, 0, 1], 2, None)), int)

    def test_the_looks_stay(self):
        looks = [0, 1, 1, 0]
        settled(looks, 2, None)
        self.assertEqual(looks, [0, 1, 1, 0])


class SillsTest(unittest.TestCase):
    def test_at_the_sills_and_beside_them(self):
        self.assertEqual(sills([3], 3, 7), [0])
        self.assertEqual(sills([4], 3, 7), [None])
        self.assertEqual(sills([2], 3, 7), [0])
        self.assertEqual(sills([7], 3, 7), [1])
        self.assertEqual(sills([6], 3, 7), [None])
        self.assertEqual(sills([8], 3, 7), [1])

    def test_between_stays_as_it_was(self):
        self.assertEqual(sills([7, 6, 4, 3, 4, 6, 7], 3, 7), [1, 1, 1, 0, 0, 0, 1])
        self.assertEqual(sills([5, 5, 9, 5, -9, 5], 3, 7), [None, None, 1, 1, 0, 0])

    def test_none_at_the_beginning_alone(self):
        self.assertEqual(sills([4, 5, 6], 3, 7), [None, None, None])
        self.assertEqual(sills([4, 3, 4], 3, 7), [None, 0, 0])
        self.assertEqual(sills([6, 7, 6], 3, 7), [None, 1, 1])

    def test_neighbouring_sills(self):
        self.assertEqual(sills([-1, 0, 1, 2, 0], 0, 1), [0, 0, 1, 1, 0])

    def test_without_turns(self):
        self.assertEqual(sills([], 3, 7), [])

    def test_very_great_numbers(self):
        self.assertEqual(sills([GREAT, GREAT - 1, -GREAT, -GREAT + 1], -GREAT, GREAT), [1, 1, 0, 0])
        self.assertEqual(sills([0, GREAT], -GREAT, GREAT), [None, 1])

    def test_sills_out_of_order_are_refused(self):
        for low, high in [(3, 3), (0, 0), (4, 3), (7, -7), (-3, -4), (GREAT, GREAT), (GREAT + 1, GREAT)]:
            for course in [[], [3], [1, 9, 5]]:
                with self.subTest(low=low, high=high, course=course), self.assertRaises(NoSills):
                    sills(course, low, high)

    def test_all_small_ones(self):
        for course in itertools.product(range(-2, 4), repeat=4):
            for low, high in [(-1, 0), (-1, 1), (0, 2), (-2, 3)]:
                told = sills(list(course), low, high)
                self.assertEqual(told, states_by_looking_back(course, low, high))
                self.assertNotIn(bool, [type(state) for state in told])

    def test_the_course_stays_and_a_told_list_may_be_changed(self):
        course = [1, 9, 5]
        told = sills(course, 3, 7)
        self.assertEqual(course, [1, 9, 5])
        told[0] = 7
        told.append(8)
        self.assertEqual(course, [1, 9, 5])
        self.assertEqual(sills(course, 3, 7), [0, 1, 1])


class ByStateTest(unittest.TestCase):
    def test_each_state(self):
        self.assertEqual(by_state(1, 3, 7), (4, None))
        self.assertEqual(by_state(0, 3, 7), (None, 6))
        self.assertIsNone(by_state(None, 3, 7))

    def test_about_nought(self):
        self.assertEqual(by_state(1, -1, 1), (0, None))
        self.assertEqual(by_state(0, -1, 1), (None, 0))
        self.assertIsNone(by_state(None, -1, 1))

    def test_very_great_numbers(self):
        self.assertEqual(by_state(1, GREAT, GREAT + 1), (GREAT + 1, None))
        self.assertEqual(by_state(0, -GREAT, -GREAT + 1), (None, -GREAT))

    def test_the_sills_are_not_looked_at(self):
        self.assertEqual(by_state(1, 7, 3), (8, None))
        self.assertEqual(by_state(0, 7, 3), (None, 2))
        self.assertEqual(by_state(0, 5, 5), (None, 4))
        self.assertIsNone(by_state(None, 7, 3))

    def test_the_course_lies_in_the_stretches_of_its_states(self):
        for course in itertools.product(range(-1, 4), repeat=4):
            for number, state in zip(course, sills(list(course), 0, 2)):
                if state is not None:
                    self.assertTrue(is_held(by_state(state, 0, 2), number))


if __name__ == "__main__":
    unittest.main()
