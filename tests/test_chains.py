"""Points 21 to 23: rises, marks that clash, courses that all marks hold, the tube; and what point 2 says of them."""

import itertools
import unittest

from gaze.chains import clash, clashing, course_in, rise, tube
from tests.helper import GREAT, GREATEST, Draws, is_clash, is_held, some_stretch, steps_of, walks

ALL = (None, None)


def some_steps(draws, length):
    return [tuple(sorted(draws.numbers(2, -2, 2))) for _ in range(length)]


def some_marks(draws, turns, length):
    return [(draws.number(0, turns - 1), some_stretch(draws, -3, 3)) for _ in range(length)]


def is_course(steps, marks, course):
    return (
        type(course) is list
        and all(type(number) is int for number in course)
        and len(course) == len(steps) + 1
        and all(is_held(step, number) for step, number in zip(steps, steps_of(course)))
        and all(is_held(one, course[turn]) for turn, one in marks)
    )


class RiseTest(unittest.TestCase):
    STEPS = [(-1, 4), (-20, 30), (100, 200)]

    def test_forward(self):
        self.assertEqual(rise(self.STEPS, 0, 1), 4)
        self.assertEqual(rise(self.STEPS, 0, 2), 34)
        self.assertEqual(rise(self.STEPS, 0, 3), 234)
        self.assertEqual(rise(self.STEPS, 1, 3), 230)
        self.assertEqual(rise(self.STEPS, 2, 3), 200)

    def test_backward(self):
        self.assertEqual(rise(self.STEPS, 1, 0), 1)
        self.assertEqual(rise(self.STEPS, 2, 0), 21)
        self.assertEqual(rise(self.STEPS, 3, 2), -100)
        self.assertEqual(rise(self.STEPS, 3, 1), -80)
        self.assertEqual(rise(self.STEPS, 3, 0), -79)

    def test_from_a_turn_to_itself(self):
        for turn in range(4):
            self.assertEqual(rise(self.STEPS, turn, turn), 0)
        self.assertEqual(rise([], 0, 0), 0)

    def test_up_only_down_only_nought(self):
        self.assertEqual((rise([(2, 5)], 0, 1), rise([(2, 5)], 1, 0)), (5, -2))
        self.assertEqual((rise([(-5, -2)], 0, 1), rise([(-5, -2)], 1, 0)), (-2, 5))
        self.assertEqual((rise([(0, 0)] * 3, 0, 3), rise([(0, 0)] * 3, 3, 0)), (0, 0))

    def test_very_great(self):
        steps = [(-GREATEST, GREAT), (-1, GREATEST)]
        self.assertEqual(rise(steps, 0, 2), GREAT + GREATEST)
        self.assertEqual(rise(steps, 2, 0), GREATEST + 1)

    def test_the_most_that_a_course_rises(self):
        draws = Draws(21)
        for _ in range(40):
            steps = some_steps(draws, draws.number(0, 3))
            courses = walks(steps, 0, 0)
            for one, other in itertools.product(range(len(steps) + 1), repeat=2):
                most = max(course[other] - course[one] for course in courses)
                self.assertEqual(rise(steps, one, other), most, (steps, one, other))


class ClashTest(unittest.TestCase):
    def assert_clash(self, steps, one, other):
        self.assertIs(clash(steps, one, other), True, (steps, one, other))

    def assert_none(self, steps, one, other):
        self.assertIs(clash(steps, one, other), False, (steps, one, other))

    def test_just_and_just_not(self):
        steps = [(-1, 2), (-3, 4)]
        self.assert_none(steps, (0, (0, 5)), (2, (11, 20)))
        self.assert_clash(steps, (0, (0, 5)), (2, (12, 20)))
        self.assert_none(steps, (2, (0, 5)), (0, (9, 20)))
        self.assert_clash(steps, (2, (0, 5)), (0, (10, 20)))

    def test_the_order_counts(self):
        steps = [(0, 0)]
        self.assert_clash(steps, (0, (0, 1)), (1, (2, 3)))
        self.assert_none(steps, (1, (2, 3)), (0, (0, 1)))

    def test_of_one_turn(self):
        self.assert_clash([], (0, (0, 1)), (0, (2, 3)))
        self.assert_none([], (0, (0, 2)), (0, (2, 3)))
        self.assert_none([], (0, (2, 3)), (0, (0, 1)))
        self.assert_none([], (0, (2, 3)), (0, (2, 3)))
        self.assert_none([(5, 5)], (1, (4, 4)), (1, (4, 4)))

    def test_open_ends_never_clash(self):
        self.assert_none([(0, 0)], (0, (0, None)), (1, (9, 9)))
        self.assert_none([(0, 0)], (0, (0, 1)), (1, (None, 9)))
        self.assert_none([(0, 0)], (0, ALL), (1, ALL))
        self.assert_clash([(0, 0)], (0, (None, 1)), (1, (9, None)))

    def test_paces_up_only(self):
        self.assert_none([(2, 5)], (1, (0, 4)), (0, (2, 2)))
        self.assert_clash([(2, 5)], (1, (0, 4)), (0, (3, 3)))

    def test_very_great(self):
        steps = [(-GREAT, GREATEST)]
        self.assert_none(steps, (0, (0, 0)), (1, (GREATEST, None)))
        self.assert_clash(steps, (0, (0, 0)), (1, (GREATEST + 1, None)))
        self.assert_none(steps, (1, (0, 0)), (0, (GREAT, None)))
        self.assert_clash(steps, (1, (0, 0)), (0, (GREAT + 1, None)))

    def test_against_a_reckoning_by_hand(self):
        draws = Draws(22)
        for _ in range(500):
            steps = some_steps(draws, draws.number(0, 3))
            one, other = some_marks(draws, len(steps) + 1, 2)
            self.assertIs(clash(steps, one, other), is_clash(steps, one, other), (steps, one, other))


class CourseTest(unittest.TestCase):
    def assert_course(self, steps, marks):
        self.assertTrue(is_course(steps, marks, course_in(steps, marks)), (steps, marks, course_in(steps, marks)))
        self.assertIsNone(clashing(steps, marks))

    def assert_clashing(self, steps, marks):
        self.assertIsNone(course_in(steps, marks))
        pair = clashing(steps, marks)
        self.assertEqual([type(pair), len(pair), type(pair[0]), type(pair[1])], [tuple, 2, int, int])
        self.assertTrue(all(0 <= number < len(marks) for number in pair), pair)
        self.assertTrue(is_clash(steps, marks[pair[0]], marks[pair[1]]), (steps, marks, pair))

    def test_no_marks(self):
        self.assert_course([], [])
        self.assert_course([(1, 2), (-7, -6), (0, 0)], [])

    def test_one_mark(self):
        for one in [(3, 5), (None, -4), (GREAT, None), ALL, (-9, -9)]:
            for turn in range(3):
                self.assert_course([(1, 2), (-7, -6)], [(turn, one)])
            self.assert_course([], [(0, one)])

    def test_several_of_one_turn(self):
        steps = [(-1, 1)]
        self.assert_course(steps, [(1, (0, 5)), (1, (5, 9)), (1, (None, 7))])
        self.assert_clashing(steps, [(1, (0, 5)), (1, ALL), (1, (6, 9)), (0, ALL)])

    def test_marks_that_just_clash_and_just_do_not(self):
        steps = [(-1, 2), (-3, 4)]
        self.assert_course(steps, [(2, (11, 20)), (0, (0, 5))])
        self.assert_clashing(steps, [(2, (12, 20)), (0, (0, 5))])
        self.assert_course(steps, [(2, (0, 5)), (0, (9, 20))])
        self.assert_clashing(steps, [(2, (0, 5)), (0, (10, 20))])

    def test_the_numbers_of_the_marks(self):
        steps = [(0, 0)]
        self.assertEqual(clashing(steps, [(0, ALL), (1, (5, 6)), (0, (7, 8))]), (1, 2))
        self.assertEqual(clashing(steps, [(0, (7, 8)), (0, ALL), (1, (5, 6))]), (2, 0))

    def test_a_clash_over_a_turn_between(self):
        self.assert_clashing([(0, 0), (0, 0)], [(0, (0, 3)), (1, (2, 8)), (2, (4, 9))])
        self.assert_course([(0, 0), (0, 0)], [(0, (0, 4)), (1, (2, 8)), (2, (4, 9))])

    def test_open_ends(self):
        self.assert_course([(1, 1)], [(0, (5, None)), (1, (8, None))])
        self.assert_course([(1, 1)], [(0, (None, 5)), (1, (None, 2))])
        self.assert_clashing([(1, 1)], [(0, (5, None)), (1, (None, 5))])
        self.assert_course([(1, 1)], [(0, (5, None)), (1, (None, 6))])

    def test_very_great(self):
        steps = [(-GREATEST, GREATEST)] * 11
        self.assert_course(steps, [(0, (0, 0)), (11, (11 * GREATEST, None))])
        self.assert_clashing(steps, [(0, (0, 0)), (11, (11 * GREATEST + 1, None))])
        self.assert_course(steps, [(0, (-GREATEST, -GREATEST)), (1, (0, 0)), (2, (GREATEST, GREATEST))])

    def test_a_hundred_marks(self):
        steps = [(-1, 1)] * 11
        marks = [(number % 12, (-number, number)) for number in range(100)]
        self.assert_course(steps, marks)
        self.assert_clashing(steps, marks[:-1] + [(11, (12, 12))])
        self.assert_course(steps, marks[:-1] + [(11, (11, 11))])

    def test_just_one_of_the_two(self):
        draws = Draws(23)
        seen = {True: 0, False: 0}
        for _ in range(600):
            steps = some_steps(draws, draws.number(0, 4))
            marks = some_marks(draws, len(steps) + 1, draws.number(0, 5))
            pairs = [(one, other) for one in marks for other in marks if is_clash(steps, one, other)]
            seen[not pairs] += 1
            if pairs:
                self.assert_clashing(steps, marks)
            else:
                self.assert_course(steps, marks)
        self.assertGreater(min(seen.values()), 150)


class TubeTest(unittest.TestCase):
    def test_no_marks(self):
        self.assertEqual(tube([], []), [ALL])
        self.assertEqual(tube([(1, 2), (-5, 5)], []), [ALL] * 3)

    def test_one_mark(self):
        self.assertEqual(tube([(-1, 2), (-3, 4)], [(0, (10, 20))]), [(10, 20), (9, 22), (6, 26)])
        self.assertEqual(tube([(-1, 2), (-3, 4)], [(2, (10, 20))]), [(4, 24), (6, 23), (10, 20)])
        self.assertEqual(tube([(-1, 2), (-3, 4)], [(1, (10, 20))]), [(8, 21), (10, 20), (7, 24)])
        self.assertEqual(tube([], [(0, (3, None))]), [(3, None)])

    def test_open_ends(self):
        self.assertEqual(tube([(-1, 2)], [(0, (10, None))]), [(10, None), (9, None)])
        self.assertEqual(tube([(-1, 2)], [(1, (None, 10))]), [(None, 11), (None, 10)])
        self.assertEqual(tube([(-1, 2)], [(0, (10, None)), (1, (None, 12))]), [(10, 13), (9, 12)])

    def test_paces_up_only_and_nought(self):
        self.assertEqual(tube([(2, 3), (0, 0)], [(0, (0, 1))]), [(0, 1), (2, 4), (2, 4)])
        self.assertEqual(tube([(2, 3), (0, 0)], [(2, (0, 0))]), [(-3, -2), (0, 0), (0, 0)])

    def test_several_marks(self):
        marks = [(0, (0, 9)), (2, (5, 30)), (0, (-3, 4)), (1, (6, 6))]
        self.assertEqual(tube([(-2, 2), (-1, 1)], marks), [(4, 4), (6, 6), (5, 7)])

    def test_no_course(self):
        self.assertIsNone(tube([(-1, 1)], [(0, (0, 0)), (1, (2, 3))]))
        self.assertIsNone(tube([(-1, 1)], [(0, (2, 3)), (1, (0, 0))]))
        self.assertIsNone(tube([], [(0, (0, 0)), (0, (1, 1))]))
        self.assertIsNone(tube([(0, 0), (0, 0)], [(2, (0, 0)), (2, (1, 1))]))
        self.assertEqual(tube([(-1, 1)], [(0, (0, 0)), (1, (1, 3))]), [(0, 0), (1, 1)])

    def test_very_great(self):
        steps = [(-GREATEST, GREAT)]
        self.assertEqual(tube(steps, [(0, (0, 0))]), [(0, 0), (-GREATEST, GREAT)])

    def test_against_every_course(self):
        # Ends are from -3 to 3 and there are two steps of at most 2: whoever begins beyond 9 is beyond all ends.
        draws = Draws(24)
        none = 0
        for _ in range(300):
            steps = some_steps(draws, draws.number(0, 2))
            marks = some_marks(draws, len(steps) + 1, draws.number(0, 4))
            courses = [course for course in walks(steps, -16, 16) if is_course(steps, marks, course)]
            told = tube(steps, marks)
            if not courses:
                none += 1
                self.assertIsNone(told, (steps, marks))
                continue
            self.assertEqual([type(told), len(told)], [list, len(steps) + 1])
            for turn, one in enumerate(told):
                self.assertIs(type(one), tuple)
                for number in range(-9, 10):
                    had = any(course[turn] == number for course in courses)
                    self.assertIs(is_held(one, number), had, (steps, marks, turn, number))
        self.assertGreater(none, 30)


class AskersOwnTest(unittest.TestCase):
    def test_what_is_handed_in_stays(self):
        steps, marks = [(-1, 2), (0, 3)], [(2, (1, 9)), (0, (None, 4)), (2, (0, None))]
        for deed in (course_in, clashing, tube):
            deed(steps, marks)
            deed(steps, marks + [(0, (20, 30))])
        rise(steps, 2, 0)
        clash(steps, marks[0], marks[1])
        self.assertEqual(steps, [(-1, 2), (0, 3)])
        self.assertEqual(marks, [(2, (1, 9)), (0, (None, 4)), (2, (0, None))])

    def test_told_lists_are_the_askers(self):
        steps, marks = [(-1, 2)], [(0, (5, 5))]
        course, stretches = course_in(steps, marks), tube(steps, marks)
        course[0] = "changed"
        stretches.clear()
        self.assertTrue(is_course(steps, marks, course_in(steps, marks)))
        self.assertEqual(tube(steps, marks), [(5, 5), (4, 7)])

    def test_what_was_told_stays(self):
        steps, marks = [(-1, 2)], [(0, (5, 5))]
        told = tube(steps, marks)
        marks[0] = (0, (9, 9))
        steps.clear()
        self.assertEqual(told, [(5, 5), (4, 7)])


if __name__ == "__main__":
    unittest.main()
