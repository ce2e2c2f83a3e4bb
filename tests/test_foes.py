"""Point 37, and point 3 on what one eye more can do: the lie of some eyes; and what point 2 says of it."""

import itertools
import unittest

from gaze.boards import Board
from gaze.errors import NoClaim, NoTelling
from gaze.foes import lie
from gaze.places import places
from gaze.worlds import fits
from tests.helper import (
    GREAT, GREATEST, Draws, board_of, fitting, is_fit, is_met, lying_eyes, own_steps, some_board, some_claim, steps_of,
    walks,
)

ALL = (None, None)


def numbers_of(board):
    return (board.eyes, board.turns, board.up, board.down, board.most)


class LiesTest(unittest.TestCase):
    def assert_lie(self, board, some, claim):
        """The lie's course, of a lie about at least one eye."""
        before = board.tellings()
        lied = lie(board, some, claim)
        self.assertIsInstance(lied, Board)
        self.assertEqual(numbers_of(lied), numbers_of(board))
        self.assertEqual(board.tellings(), before)
        for eye in set(range(board.eyes)) - set(some):
            for turn in range(board.turns):
                self.assertEqual(lied.word(eye, turn), board.word(eye, turn))
        if not some:
            return None
        course = [lied.word(some[0], turn)[0] for turn in range(board.turns)]
        for eye, turn in itertools.product(some, range(board.turns)):
            self.assertEqual(lied.word(eye, turn), (course[turn], course[turn]))
        self.assertTrue(is_met(course, claim), (course, claim))
        self.assertTrue(all(-board.down <= step <= board.up for step in steps_of(course)))
        self.assertLessEqual(len(set(lying_eyes(board, course)) - set(some)), board.most)
        self.assertTrue(fits(lied, course))
        return course

    def assert_none(self, board, some, claim):
        before = board.tellings()
        self.assertIsNone(lie(board, some, claim))
        self.assertEqual(board.tellings(), before)


class LieTest(LiesTest):
    def board(self, most=1):
        return board_of(Board(4, 3, 2, 1, most), (0, 0, 4, 5), (1, 0, 4, 5), (2, 1, 5, 6), (3, 2, 0, 0))

    def test_more_eyes_than_allowed(self):
        course = self.assert_lie(self.board(), [0, 1], [("at", 0, (-4, -4))])
        self.assertEqual(course[0], -4)
        # From -5 on both others would lie.
        self.assert_none(self.board(), [0, 1], [("at", 0, (-5, -5))])

    def test_that_course_alone_fits(self):
        board = self.board()
        lied = lie(board, [3, 0], [("at", 0, (3, 3)), ("at", 1, (5, 5)), ("at", 2, (4, 4))])
        self.assertEqual([places(lied, turn) for turn in range(3)], [[(3, 3)], [(5, 5)], [(4, 4)]])

    def test_just_as_many_as_allowed(self):
        course = self.assert_lie(self.board(), [3], [("at", 2, (9, 9))])
        self.assertEqual(course[2], 9)
        # Both eyes that saw 4 to 5 would lie, and one of them is all that the board allows.
        self.assert_none(self.board(), [3], [("at", 0, (6, 6))])
        self.assert_lie(self.board(2), [3], [("at", 0, (6, 6))])

    def test_fewer_and_none(self):
        self.assert_lie(self.board(2), [3], [])
        self.assert_lie(self.board(), [], [])
        self.assert_lie(self.board(), [], [("at", 0, (4, 5))])
        self.assert_none(self.board(), [], [("at", 0, (6, 6))])
        self.assert_none(self.board(0), [], [])
        self.assertEqual(lie(self.board(), [], []).tellings(), self.board().tellings())

    def test_all_eyes(self):
        for most in range(5):
            course = self.assert_lie(self.board(most), [2, 0, 3, 1], [("at", 0, (GREAT, GREAT))])
            self.assertEqual(course[0], GREAT)

    def test_a_claim_that_no_course_meets(self):
        for claim in [
            [("step", 0, (3, 3))], [("at", 1, (1, 1)), ("at", 1, (2, 2))], [("at", 0, (0, 0)), ("at", 2, (5, None))],
        ]:
            for some in [[], [0], [0, 1, 2, 3]]:
                self.assert_none(self.board(4), some, claim)

    def test_the_empty_claim_where_the_others_agree(self):
        self.assert_lie(self.board(0), [3], [])
        self.assert_none(self.board(0), [0], [])

    def test_words_that_stood_are_replaced(self):
        board = board_of(Board(2, 2, 1, 1, 0), (0, 0, -9, 9), (0, 1, None, None))
        course = self.assert_lie(board, [0], [("at", 0, (20, 20))])
        self.assertEqual(course[0], 20)

    def test_very_great_numbers(self):
        board = Board(2, 2, 2 * GREATEST, 0, 0)
        course = self.assert_lie(board, [1], [("at", 0, (-GREATEST, -GREATEST)), ("at", 1, (GREATEST, None))])
        self.assertEqual(course, [-GREATEST, GREATEST])


class RefusalsTest(LiesTest):
    NO_PARTS = [("at", 2, ALL), ("at", -1, ALL), ("step", 1, ALL), ("step", -1, ALL), ("on", 0, ALL), ("", 0, ALL)]

    def test_no_claim(self):
        board = board_of(Board(2, 2, 1, 1, 0), (0, 0, 1, 1), (1, 0, 2, 2))
        for part in self.NO_PARTS:
            for some in [[], [0], [0, 1], [2], [-1], [0, 7]]:
                for beside in [[], [("at", 0, (5, 5))], [("step", 0, (9, 9))], [("at", 0, (0, 0)), ("at", 0, (1, 1))]]:
                    with self.subTest(part=part, some=some), self.assertRaises(NoClaim):
                        lie(board, some, beside + [part])
        self.assertEqual(board.tellings(), [(0, 0, (1, 1)), (1, 0, (2, 2))])

    def test_no_telling(self):
        board = board_of(Board(2, 2, 1, 1, 0), (0, 0, 1, 1), (1, 0, 2, 2))
        impossible = [("step", 0, (9, 9))]
        for some in [[2], [-1], [0, 2], [-1, 0], [0, 1, 2], [GREAT], [-2]]:
            for claim in [[], [("at", 0, (1, 1))], impossible, [("at", 0, (9, 9))]]:
                with self.subTest(some=some, claim=claim), self.assertRaises(NoTelling):
                    lie(board, some, claim)
        self.assertEqual(board.tellings(), [(0, 0, (1, 1)), (1, 0, (2, 2))])


class AllCoursesTest(LiesTest):
    def test_against_every_course(self):
        # Ends are from -3 to 3 and courses move by at most 4 in all: whoever begins beyond 8 is beyond all ends.
        draws = Draws(42)
        seen = {}
        for _ in range(300):
            board = some_board(draws, Board, eyes=4, words=10)
            some = [eye for eye in range(board.eyes) if draws.number(0, 2) == 0]
            claim = some_claim(draws, board)
            courses = [course for course in walks(own_steps(board), -8, 8) if is_met(course, claim)]
            can = any(len(set(lying_eyes(board, course)) - set(some)) <= board.most for course in courses)
            form = (can, len(some) > board.most)
            seen[form] = seen.get(form, 0) + 1
            if not can:
                self.assert_none(board, some, claim)
                continue
            self.assert_lie(board, some, claim)
            if len(some) > board.most:
                self.assert_that_course_alone(lie(board, some, claim), some[0])
            else:
                self.assert_right_courses_still_fit(board, lie(board, some, claim), some)
        self.assertEqual(len(seen), 4, seen)
        self.assertGreater(min(seen.values()), 10, seen)

    def assert_that_course_alone(self, lied, liar):
        course = [lied.word(liar, turn)[0] for turn in range(lied.turns)]
        self.assertEqual(fitting(lied, -30, 30), [course])
        self.assertEqual([places(lied, turn) for turn in range(lied.turns)], [[(n, n)] for n in course])

    def assert_right_courses_still_fit(self, board, lied, some):
        for course in fitting(board, -8, 8):
            if not set(lying_eyes(board, course)) - set(some):
                self.assertTrue(is_fit(lied, course))
                self.assertTrue(fits(lied, course))


class AskersOwnTest(unittest.TestCase):
    def test_what_is_handed_in_stays(self):
        board, some, claim = Board(3, 2, 1, 1, 1), [2, 0], [("at", 0, (5, 5))]
        lie(board, some, claim)
        lie(board, some, claim + [("step", 0, (9, 9))])
        self.assertEqual((some, claim, board.tellings()), ([2, 0], [("at", 0, (5, 5))], []))

    def test_two_boards(self):
        board = board_of(Board(3, 2, 1, 1, 1), (1, 0, 5, 5))
        lied = lie(board, [0], [("at", 0, (5, 5))])
        before = lied.tellings()
        board.hush(1, 0)
        board.tell(0, 1, 9, 9)
        self.assertEqual(lied.tellings(), before)
        lied.hush(1, 0)
        lied.tell(2, 0, 7, 7)
        self.assertEqual(board.tellings(), [(0, 1, (9, 9))])

    def test_a_lie_of_no_eye_is_another_board(self):
        board = board_of(Board(3, 2, 1, 1, 1), (1, 0, 5, 5))
        lie(board, [], []).tell(0, 0, 1, 1)
        self.assertEqual(board.tellings(), [(1, 0, (5, 5))])


if __name__ == "__main__":
    unittest.main()
