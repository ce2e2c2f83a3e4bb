"""Point 14: eyes of a sort, their slack and their words, and what point 2 says of them."""

import copy
import math
import unittest
from fractions import Fraction

from gaze.contacts import settled
from gaze.errors import NoSills, OffGauge
from gaze.gauges import Gauge
from gaze.sorts import Contact, Eye, Gauged, Plain
from tests.helper import GREAT, GREATEST, Draws, fraction_of, ratio_of

KNOTS = [(0, 10), (4, 12), (7, 22), (10, 23)]
NO_DRIFT = (0, 1)


def gauged(error, drift=NO_DRIFT, since=0):
    return Gauged(drift, since, Gauge(KNOTS), error)


def contact(many, low, high, drift=NO_DRIFT, since=0):
    return Contact(drift, since, many, low, high)


def each_sort(drift, since):
    return [
        Eye(drift, since), Plain(drift, since), Gauged(drift, since, Gauge(KNOTS), 1), Contact(drift, since, 1, 3, 7),
    ]


class SlackTest(unittest.TestCase):
    def assert_slacks(self, drift, since, turns, told):
        for eye in each_sort(drift, since):
            self.assertEqual([eye.slack(turn) for turn in turns], told)

    def test_every_sort_stands_under_eye(self):
        for sort in [Plain, Gauged, Contact]:
            self.assertTrue(issubclass(sort, Eye))

    def test_nought(self):
        self.assert_slacks(NO_DRIFT, 0, range(12), [0] * 12)
        self.assert_slacks(NO_DRIFT, -GREAT, [0, 5, GREAT], [0, 0, 0])

    def test_whole(self):
        self.assert_slacks((1, 1), 0, range(5), [0, 1, 2, 3, 4])
        self.assert_slacks((3, 1), 2, range(6), [6, 3, 0, 3, 6, 9])

    def test_at_before_and_behind_since(self):
        self.assert_slacks((2, 1), 5, [3, 4, 5, 6, 7], [4, 2, 0, 2, 4])
        self.assert_slacks((2, 1), -3, [0, 1], [6, 8])
        self.assert_slacks((2, 1), 20, [0, 11], [40, 18])

    def test_broken_is_raised(self):
        self.assert_slacks((1, 3), 0, range(8), [0, 1, 1, 1, 2, 2, 2, 3])
        self.assert_slacks((5, 2), 1, range(5), [3, 0, 3, 5, 8])
        self.assert_slacks((7, 5), 4, range(9), [6, 5, 3, 2, 0, 2, 3, 5, 6])
        self.assert_slacks((1, GREAT), 0, [0, 1, 11], [0, 1, 1])

    def test_very_great_numbers(self):
        self.assert_slacks((GREAT, 1), 0, [0, 1, 2], [0, GREAT, 2 * GREAT])
        self.assert_slacks((1, 2), -GREATEST, [0, 1], [(GREATEST + 1) // 2, (GREATEST + 1) // 2])
        self.assert_slacks((GREATEST, 2), 0, [1, 2, 3], [(GREATEST + 1) // 2, GREATEST, (3 * GREATEST + 1) // 2])

    def test_against_fractions(self):
        draws = Draws()
        for _ in range(300):
            drift = Fraction(draws.number(0, 20), draws.number(1, 9))
            since = draws.number(-5, 15)
            eye = Eye(ratio_of(drift), since)
            for turn in range(12):
                told = eye.slack(turn)
                self.assertEqual(told, math.ceil(drift * abs(turn - since)))
                self.assertIs(type(told), int)


class PlainTest(unittest.TestCase):
    def test_without_drift(self):
        words = [(1, 5), None, (None, 3), (7, None), (None, None), (2, 2)]
        self.assertEqual(Plain(NO_DRIFT, 0).stretches(words), words)

    def test_no_words(self):
        self.assertEqual(Plain((1, 2), 3).stretches([]), [])

    def test_none_alone(self):
        self.assertEqual(Plain((1, 2), 3).stretches([None, None]), [None, None])

    def test_widened_by_the_slack_at_each_turn(self):
        words = [(0, 0), (0, 0), None, (0, 1), (-5, -4)]
        self.assertEqual(Plain((1, 1), 0).stretches(words), [(0, 0), (-1, 1), None, (-3, 4), (-9, 0)])
        self.assertEqual(Plain((1, 1), 3).stretches(words), [(-3, 3), (-2, 2), None, (0, 1), (-6, -3)])
        self.assertEqual(Plain((3, 2), 1).stretches(words), [(-2, 2), (0, 0), None, (-3, 4), (-10, 1)])

    def test_open_ends_stay_open(self):
        words = [(None, 3), (4, None), (None, None)]
        self.assertEqual(Plain((5, 1), 1).stretches(words), [(None, 8), (4, None), (None, None)])
        self.assertEqual(Plain((5, 1), -1).stretches(words), [(None, 8), (-6, None), (None, None)])

    def test_very_great_numbers(self):
        eye = Plain((GREAT, 1), 0)
        self.assertEqual(eye.stretches([None, (-GREAT, GREAT)]), [None, (-2 * GREAT, 2 * GREAT)])


class GaugedTest(unittest.TestCase):
    def test_without_error(self):
        words = [0, 1, 2, 4, 5, None, 7, 8, 10]
        told = [(10, 10), (10, 11), (11, 11), (12, 12), (15, 16), None, (22, 22), (22, 23), (23, 23)]
        self.assertEqual(gauged(0).stretches(words), told)

    def test_with_an_error(self):
        self.assertEqual(gauged(1).stretches([1, 2, 5, None, 9]), [(10, 11), (10, 12), (12, 19), None, (22, 23)])
        self.assertEqual(gauged(3).stretches([4]), [(10, 22)])

    def test_the_ends_of_the_gauge(self):
        self.assertEqual(gauged(1).stretches([0, 10]), [(None, 11), (22, None)])
        self.assertEqual(gauged(2).stretches([1, 2, 8, 9]), [(None, 12), (10, 12), (18, 23), (22, None)])

    def test_an_error_that_leads_beyond_at_both_ends(self):
        self.assertEqual(gauged(10).stretches([0, 10, 5]), [(None, 23), (10, None), (None, None)])
        self.assertEqual(gauged(11).stretches([0, 10, 5]), [(None, None)] * 3)
        self.assertEqual(gauged(GREAT).stretches([4]), [(None, None)])

    def test_floored_and_raised_below_nought(self):
        eye = Gauged(NO_DRIFT, 0, Gauge([(0, -10), (3, -8)]), 0)
        self.assertEqual(eye.stretches([0, 1, 2, 3]), [(-10, -10), (-10, -9), (-9, -8), (-8, -8)])

    def test_widened_by_the_slack(self):
        told = gauged(1, (3, 2), 1).stretches([2, 2, 2, None, 0, 10])
        self.assertEqual(told, [(8, 14), (10, 12), (8, 14), None, (None, 16), (16, None)])

    def test_raws_off_the_gauge_are_refused(self):
        for error in [0, 1, 5, 20, GREAT]:
            for raw in [-1, 11, -5, 15, GREAT, -GREAT]:
                for words in [[raw], [5, raw], [raw, 5], [None, 0, raw, 10]]:
                    with self.subTest(error=error, words=words), self.assertRaises(OffGauge):
                        gauged(error).stretches(words)

    def test_no_words(self):
        self.assertEqual(gauged(1).stretches([]), [])
        self.assertEqual(gauged(1).stretches([None, None]), [None, None])

    def test_very_great_numbers(self):
        eye = Gauged(NO_DRIFT, 0, Gauge([(-GREATEST, 0), (GREATEST, 1)]), GREAT)
        self.assertEqual(eye.stretches([0, GREATEST, -GREATEST]), [(0, 1), (0, None), (None, 1)])
        eye = Gauged((1, 1), -GREAT, Gauge([(0, 0), (1, GREATEST)]), 1)
        self.assertEqual(eye.stretches([0, 1]), [(None, GREATEST + GREAT), (-GREAT - 1, None)])

    def test_against_fractions(self):
        draws = Draws()
        for _ in range(300):
            length = draws.number(2, 5)
            knots = list(zip(draws.rising(length, -5, 6), draws.rising(length, -9, 9)))
            gauge = Gauge(knots)
            error = draws.number(0, 6)
            drift = (draws.number(0, 5), 1)
            words = draws.numbers(5, knots[0][0], knots[-1][0])
            for turn, told in enumerate(Gauged(drift, 2, gauge, error).stretches(words)):
                slack = drift[0] * abs(turn - 2)
                lo = hi = None
                if words[turn] - error >= knots[0][0]:
                    lo = math.floor(fraction_of(gauge.forth((words[turn] - error, 1)))) - slack
                if words[turn] + error <= knots[-1][0]:
                    hi = math.ceil(fraction_of(gauge.forth((words[turn] + error, 1)))) + slack
                self.assertEqual(told, (lo, hi))

    def test_a_value_whose_raw_is_within_the_error_is_in_the_word(self):
        gauge = Gauge(KNOTS)
        for error in range(4):
            for raw in range(11):
                word = gauged(error).stretches([raw])[0]
                for true in range(max(0, raw - error), min(10, raw + error) + 1):
                    value = fraction_of(gauge.forth((true, 1)))
                    self.assertTrue(word[0] is None or word[0] <= value)
                    self.assertTrue(word[1] is None or word[1] >= value)


class ContactTest(unittest.TestCase):
    def test_states(self):
        eye = contact(1, 3, 7)
        self.assertEqual(eye.stretches([[1], [0], [1, 0], [0, 1]]), [(4, None), (None, 6), (None, 6), (4, None)])

    def test_none_until_the_looks_settle(self):
        eye = contact(2, 3, 7)
        self.assertEqual(eye.stretches([[], [1], [0, 1], [1, 1], [0]]), [None, None, None, (4, None), (4, None)])
        self.assertEqual(eye.stretches([[], [1, 0, 1]]), [None, None])

    def test_rows_do_not_go_on_over_turns(self):
        eye = contact(3, 3, 7)
        self.assertEqual(eye.stretches([[1, 1], [1, 1], [1, 1, 1]]), [None, None, (4, None)])

    def test_states_go_on_over_none(self):
        eye = contact(2, 3, 7)
        words = [None, [1, 1], None, None, [0], None, [], [0, 0], None, [1]]
        told = [None, (4, None), None, None, (4, None), None, (4, None), (None, 6), None, (None, 6)]
        self.assertEqual(eye.stretches(words), told)

    def test_states_go_on_over_looks_that_do_not_settle(self):
        eye = contact(3, -2, 5)
        words = [[0, 0, 0], [1, 1, 0, 1, 1], [0, 1], [], [1, 1, 1, 0, 0], [0, 0]]
        told = [(None, 4), (None, 4), (None, 4), (None, 4), (-1, None), (-1, None)]
        self.assertEqual(eye.stretches(words), told)

    def test_widened_by_the_slack(self):
        eye = contact(1, 3, 7, (5, 2), 2)
        words = [[1], [0], [1], None, [], [0]]
        self.assertEqual(eye.stretches(words), [(-1, None), (None, 9), (4, None), None, (-1, None), (None, 14)])

    def test_sills_out_of_order_are_refused(self):
        for low, high in [(3, 3), (0, 0), (4, 3), (7, -7), (GREAT, GREAT), (GREAT + 1, GREAT)]:
            with self.subTest(low=low, high=high), self.assertRaises(NoSills):
                contact(1, low, high)

    def test_neighbouring_and_very_great_sills(self):
        self.assertEqual(contact(1, 3, 4).stretches([[0], [1]]), [(None, 3), (4, None)])
        eye = contact(1, -GREAT, GREAT, (GREAT, 1), 0)
        self.assertEqual(eye.stretches([[0], [1]]), [(None, GREAT - 1), (1 - 2 * GREAT, None)])

    def test_no_words(self):
        self.assertEqual(contact(1, 3, 7).stretches([]), [])

    def test_mixed_words_turn_by_turn(self):
        draws = Draws()
        for _ in range(300):
            many = draws.number(1, 3)
            words = []
            told = []
            state = None
            for turn in range(6):
                looks = None if draws.number(0, 3) == 0 else draws.numbers(draws.number(0, 5), 0, 1)
                words.append(looks)
                if looks is not None:
                    state = settled(looks, many, state)
                if looks is None or state is None:
                    told.append(None)
                else:
                    told.append((1 - 2 * turn, None) if state == 1 else (None, 8 + 2 * turn))
            self.assertEqual(contact(many, 0, 9, (2, 1), 0).stretches(words), told)


class AskersOwnTest(unittest.TestCase):
    def setUp(self):
        self.asked = [
            (Plain((1, 2), 1), [(1, 5), None, (None, 3)]),
            (gauged(1, (1, 2), 1), [0, None, 5, 10]),
            (contact(2, 3, 7, (1, 2), 1), [None, [1, 1], [0, 1], None, [0, 0, 1]]),
        ]

    def test_the_words_handed_in_stay(self):
        for eye, words in self.asked:
            before = copy.deepcopy(words)
            eye.stretches(words)
            self.assertEqual(words, before)

    def test_asking_twice_gives_the_same(self):
        for eye, words in self.asked:
            told = eye.stretches(words)
            self.assertEqual(eye.stretches(words), told)
            self.assertEqual(len(told), len(words))
            self.assertIs(type(told), list)

    def test_each_asking_of_a_contact_begins_anew(self):
        eye = contact(2, 3, 7)
        self.assertEqual(eye.stretches([[1, 1]]), [(4, None)])
        self.assertEqual(eye.stretches([[], [0], None]), [None, None, None])

    def test_a_refused_asking_leaves_nothing_behind(self):
        eye = gauged(1)
        told = eye.stretches([0, 5])
        with self.assertRaises(OffGauge):
            eye.stretches([5, 11])
        self.assertEqual(eye.stretches([0, 5]), told)

    def test_a_told_list_may_be_changed(self):
        for eye, words in self.asked:
            before = copy.deepcopy(words)
            told = eye.stretches(words)
            kept = list(told)
            told[0] = (100, 200)
            told.append(None)
            self.assertEqual(words, before)
            self.assertEqual(eye.stretches(words), kept)

    def test_a_told_list_is_never_the_one_handed_in(self):
        words = [(1, 5), (None, 3)]
        told = Plain(NO_DRIFT, 0).stretches(words)
        self.assertIsNot(told, words)
        words.clear()
        self.assertEqual(told, [(1, 5), (None, 3)])

    def test_changing_the_knots_afterwards_changes_no_eye(self):
        knots = list(KNOTS)
        eye = Gauged(NO_DRIFT, 0, Gauge(knots), 0)
        knots[:] = [(0, 0), (1, 1)]
        self.assertEqual(eye.stretches([10]), [(23, 23)])

    def test_eyes_stand_apart(self):
        one = Plain((1, 1), 0)
        other = Plain((3, 1), 1)
        self.assertEqual(one.stretches([(0, 0), (0, 0)]), [(0, 0), (-1, 1)])
        self.assertEqual(other.stretches([(0, 0), (0, 0)]), [(-3, 3), (0, 0)])


if __name__ == "__main__":
    unittest.main()
