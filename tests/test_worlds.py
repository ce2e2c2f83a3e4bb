"""Points 24 to 26: liars and fits, quarrels and suspects, what a board needs; and what point 2 says of them."""

import itertools
import unittest

from gaze.boards import Board
from gaze.worlds import fits, least, liars, quarrels, suspects
from tests.helper import (
    GREAT, GREATEST, Draws, board_of, is_clash, is_fit, lying_eyes, own_steps, some_board, steps_of, walks,
)


def quarrels_by_hand(board):
    told = board.tellings()
    found = {
        (min(eye, other), max(eye, other))
        for eye, turn, word in told for other, at, beside in told
        if is_clash(own_steps(board), (turn, word), (at, beside))
    }
    return sorted(found)


def suspects_by_hand(pairs, eyes, most):
    def enough(some):
        return all(set(pair) & set(some) for pair in pairs)

    found = []
    for length in range(most + 1):
        for some in itertools.combinations(range(eyes), length):
            fewer = [[eye for eye in some if eye != spared] for spared in some]
            if enough(some) and not any(enough(one) for one in fewer):
                found.append(list(some))
    return sorted(found)


class LiarsTest(unittest.TestCase):
    def test_no_words(self):
        self.assertEqual(liars(Board(3, 2, 0, 0, 0), [4, 4]), [])

    def test_one_word(self):
        board = board_of(Board(2, 3, 1, 1, 0), (1, 1, 4, 6))
        for number in [4, 5, 6]:
            self.assertEqual(liars(board, [0, number, 0]), [])
        for number in [3, 7, -GREAT, GREAT]:
            self.assertEqual(liars(board, [5, number, 5]), [1])

    def test_one_wrong_word_among_several(self):
        board = board_of(Board(1, 3, 1, 1, 0), (0, 0, 1, 2), (0, 1, None, 5), (0, 2, 3, None))
        self.assertEqual(liars(board, [1, 5, 3]), [])
        self.assertEqual(liars(board, [0, 5, 3]), [0])
        self.assertEqual(liars(board, [1, 6, 3]), [0])
        self.assertEqual(liars(board, [1, 5, 2]), [0])
        self.assertEqual(liars(board, [9, 9, 0]), [0])

    def test_several_rising_each_once(self):
        board = board_of(Board(4, 2, 1, 1, 0), (3, 0, 1, 1), (3, 1, 1, 1), (0, 1, 1, 1), (1, 0, 5, 5), (2, 0, 1, 1))
        self.assertEqual(liars(board, [5, 5]), [0, 2, 3])
        self.assertEqual(liars(board, [1, 1]), [1])
        self.assertEqual(liars(board, [2, 2]), [0, 1, 2, 3])

    def test_steps_and_what_is_allowed_say_nothing(self):
        for most in range(3):
            board = board_of(Board(2, 2, 0, 0, most), (0, 0, 1, 1), (1, 1, 9, 9))
            self.assertEqual(liars(board, [1, 9]), [])
            self.assertEqual(liars(board, [9, 1]), [0, 1])


class FitsTest(unittest.TestCase):
    def assert_fit(self, board, course):
        self.assertIs(fits(board, course), True, course)

    def assert_unfit(self, board, course):
        self.assertIs(fits(board, course), False, course)

    def test_steps(self):
        board = Board(1, 3, 2, 1, 0)
        self.assert_fit(board, [5, 7, 6])
        self.assert_unfit(board, [5, 8, 8])
        self.assert_unfit(board, [5, 5, 3])
        self.assert_fit(Board(1, 2, 0, 0, 1), [3, 3])
        self.assert_unfit(Board(1, 2, 0, 0, 1), [3, 4])
        self.assert_unfit(Board(1, 2, 0, 0, 1), [3, 2])

    def test_one_turn(self):
        self.assert_fit(Board(1, 1, 0, 0, 0), [GREATEST])

    def test_how_many_lie(self):
        words = [(eye, 0, eye, eye) for eye in range(4)]
        for most in range(5):
            board = board_of(Board(4, 1, 0, 0, most), *words)
            self.assertIs(fits(board, [2]), most >= 3)
            self.assertIs(fits(board, [9]), most >= 4)

    def test_one_eye_that_lies_often_is_one(self):
        board = board_of(Board(2, 3, 0, 0, 1), (0, 0, 1, 1), (0, 1, 2, 2), (0, 2, 3, 3), (1, 1, 7, 7))
        self.assert_fit(board, [7, 7, 7])
        self.assert_unfit(board, [8, 8, 8])

    def test_against_a_reckoning_by_hand(self):
        draws = Draws(25)
        for _ in range(60):
            board = some_board(draws, Board)
            for course in walks([(-3, 3)] * (board.turns - 1), -4, 4):
                self.assertEqual(liars(board, course), lying_eyes(board, course))
                self.assertIs(fits(board, course), is_fit(board, course))


class QuarrelsTest(unittest.TestCase):
    def test_no_words(self):
        self.assertEqual(quarrels(Board(3, 3, 0, 0, 1)), [])

    def test_words_of_one_eye(self):
        self.assertEqual(quarrels(board_of(Board(3, 3, 1, 1, 1), (1, 0, 0, 0), (1, 2, 2, 2))), [])
        self.assertEqual(quarrels(board_of(Board(3, 3, 1, 1, 1), (1, 0, 0, 0), (1, 2, 3, 3))), [(1, 1)])
        self.assertEqual(quarrels(board_of(Board(3, 3, 1, 1, 1), (1, 0, 0, 0), (1, 2, -3, -3))), [(1, 1)])

    def test_each_once_in_either_order(self):
        # Eye 2's words clash with eye 0's from below and from above.
        board = board_of(Board(3, 2, 0, 0, 1), (0, 0, 5, 5), (0, 1, 5, 5), (2, 0, 1, 1), (2, 1, 9, 9))
        self.assertEqual(quarrels(board), [(0, 2), (2, 2)])

    def test_rising(self):
        board = board_of(Board(4, 1, 0, 0, 1), (3, 0, 1, 1), (0, 0, 2, 2), (2, 0, 3, 3), (1, 0, 4, 4))
        self.assertEqual(quarrels(board), list(itertools.combinations(range(4), 2)))
        self.assertTrue(all(type(pair) is tuple for pair in quarrels(board)))

    def test_just_and_just_not(self):
        self.assertEqual(quarrels(board_of(Board(2, 3, 2, 1, 0), (0, 0, 0, 0), (1, 2, 4, 9))), [])
        self.assertEqual(quarrels(board_of(Board(2, 3, 2, 1, 0), (0, 0, 0, 0), (1, 2, 5, 9))), [(0, 1)])
        self.assertEqual(quarrels(board_of(Board(2, 3, 2, 1, 0), (0, 0, 0, 0), (1, 2, -9, -2))), [])
        self.assertEqual(quarrels(board_of(Board(2, 3, 2, 1, 0), (0, 0, 0, 0), (1, 2, -9, -3))), [(0, 1)])

    def test_open_ends(self):
        self.assertEqual(quarrels(board_of(Board(2, 1, 0, 0, 0), (0, 0, None, 4), (1, 0, 5, None))), [(0, 1)])
        self.assertEqual(quarrels(board_of(Board(2, 1, 0, 0, 0), (0, 0, 4, None), (1, 0, 5, None))), [])

    def test_very_great(self):
        far = GREATEST * 11
        board = board_of(Board(2, 12, GREATEST, 0, 0), (0, 0, 0, 0), (1, 11, far, far))
        self.assertEqual(quarrels(board), [])
        board.tell(1, 11, far + 1, far + 1)
        self.assertEqual(quarrels(board), [(0, 1)])

    def test_against_a_reckoning_by_hand(self):
        draws = Draws(26)
        seen = 0
        for _ in range(300):
            board = some_board(draws, Board, eyes=5, turns=4, words=12, ends=5, moves=1)
            self.assertEqual(quarrels(board), quarrels_by_hand(board), board.tellings())
            seen += len(quarrels(board)) > 1
        self.assertGreater(seen, 60)

    def test_some_eyes_are_right_together_just_where_none_quarrel(self):
        draws = Draws(27)
        for _ in range(80):
            board = some_board(draws, Board)
            pairs = quarrels(board)
            honest = [
                set(range(board.eyes)) - set(lying_eyes(board, course)) for course in walks(own_steps(board), -8, 8)
            ]
            for length in range(board.eyes + 1):
                for some in itertools.combinations(range(board.eyes), length):
                    peace = not any(set(pair) <= set(some) for pair in pairs)
                    self.assertIs(any(set(some) <= eyes for eyes in honest), peace, (board.tellings(), some))


class SuspectsTest(unittest.TestCase):
    def test_no_quarrel(self):
        for most in range(4):
            self.assertEqual(suspects(Board(3, 2, 0, 0, most)), [[]])
            self.assertEqual(suspects(board_of(Board(3, 2, 0, 0, most), (0, 0, 1, 4), (2, 1, 3, 9))), [[]])

    def test_one_quarrel(self):
        words = [(0, 0, 1, 1), (2, 0, 2, 2)]
        self.assertEqual(suspects(board_of(Board(3, 1, 0, 0, 0), *words)), [])
        for most in [1, 2, 3]:
            self.assertEqual(suspects(board_of(Board(3, 1, 0, 0, most), *words)), [[0], [2]])

    def test_an_eye_that_quarrels_with_itself(self):
        words = [(1, 0, 1, 1), (1, 1, 5, 5)]
        self.assertEqual(suspects(board_of(Board(3, 2, 1, 1, 0), *words)), [])
        for most in [1, 2, 3]:
            self.assertEqual(suspects(board_of(Board(3, 2, 1, 1, most), *words)), [[1]])

    def test_one_against_two(self):
        # Eye 1 quarrels with both others, which do not quarrel.
        words = [(0, 0, 1, 1), (1, 0, 2, 2), (2, 0, 1, 1)]
        self.assertEqual(suspects(board_of(Board(3, 1, 0, 0, 0), *words)), [])
        self.assertEqual(suspects(board_of(Board(3, 1, 0, 0, 1), *words)), [[1]])
        self.assertEqual(suspects(board_of(Board(3, 1, 0, 0, 2), *words)), [[0, 2], [1]])
        self.assertEqual(suspects(board_of(Board(3, 1, 0, 0, 3), *words)), [[0, 2], [1]])

    def test_all_against_all(self):
        words = [(eye, 0, eye, eye) for eye in range(4)]
        threes = [list(some) for some in itertools.combinations(range(4), 3)]
        self.assertEqual(suspects(board_of(Board(4, 1, 0, 0, 2), *words)), [])
        self.assertEqual(suspects(board_of(Board(4, 1, 0, 0, 3), *words)), threes)
        self.assertEqual(suspects(board_of(Board(4, 1, 0, 0, 4), *words)), threes)

    def test_all_eyes_with_themselves(self):
        words = [(eye, turn, turn, turn) for eye in range(7) for turn in range(2)]
        self.assertEqual(suspects(board_of(Board(7, 2, 0, 0, 7), *words)), [list(range(7))])
        self.assertEqual(suspects(board_of(Board(7, 2, 0, 0, 6), *words)), [])

    def test_against_a_reckoning_by_hand(self):
        draws = Draws(28)
        long = 0
        for _ in range(300):
            board = some_board(draws, Board, eyes=6, turns=3, words=12, ends=5, moves=1)
            told = suspects(board)
            self.assertEqual(told, suspects_by_hand(quarrels_by_hand(board), board.eyes, board.most))
            long += len(told) > 1
        self.assertGreater(long, 40)


class LeastTest(unittest.TestCase):
    def assert_least(self, board, number):
        told = least(board)
        self.assertEqual([type(told), len(told), told[0]], [tuple, 2, number])
        course = told[1]
        self.assertEqual([type(course), len(course)], [list, board.turns])
        self.assertTrue(all(type(part) is int for part in course))
        self.assertTrue(all(-board.down <= step <= board.up for step in steps_of(course)), course)
        self.assertEqual(len(lying_eyes(board, course)), number, (board.tellings(), course))

    def test_no_words(self):
        self.assert_least(Board(3, 4, 1, 0, 0), 0)
        self.assert_least(Board(1, 1, 0, 0, 1), 0)

    def test_whatever_the_board_allows(self):
        for most in range(4):
            self.assert_least(board_of(Board(3, 1, 0, 0, most), (0, 0, 1, 1), (1, 0, 2, 2), (2, 0, 3, 3)), 2)
            self.assert_least(board_of(Board(3, 1, 0, 0, most), (0, 0, 1, 1), (1, 0, 2, 2), (2, 0, 2, 2)), 1)
            self.assert_least(board_of(Board(3, 2, 1, 1, most), (0, 0, 1, 1), (1, 1, 2, 2), (2, 0, 2, 2)), 1)

    def test_eyes_that_quarrel_with_themselves(self):
        words = [(eye, turn, turn, turn) for eye in range(7) for turn in range(2)]
        self.assert_least(board_of(Board(7, 2, 0, 0, 0), *words), 7)

    def test_very_great(self):
        board = board_of(Board(2, 2, GREAT, 0, 0), (0, 0, -GREATEST, -GREATEST), (1, 1, GREATEST, GREATEST))
        self.assert_least(board, 1)

    def test_against_every_course(self):
        draws = Draws(29)
        for _ in range(150):
            board = some_board(draws, Board, eyes=4, turns=3, words=9)
            number = min(len(lying_eyes(board, course)) for course in walks(own_steps(board), -8, 8))
            self.assert_least(board, number)


class AskersOwnTest(unittest.TestCase):
    def board(self):
        return board_of(Board(3, 2, 1, 0, 2), (0, 0, 1, 1), (1, 0, 3, 3), (2, 1, 9, None))

    def test_what_is_handed_in_stays(self):
        board, course = self.board(), [1, 2]
        for deed in (quarrels, suspects, least):
            deed(board)
        liars(board, course)
        fits(board, course)
        self.assertEqual(course, [1, 2])
        self.assertEqual(board.tellings(), self.board().tellings())
        self.assertEqual(board.most, 2)

    def test_told_lists_are_the_askers(self):
        board = self.board()
        liars(board, [1, 1]).clear()
        quarrels(board).clear()
        told = suspects(board)
        told[0].append(7)
        told.pop()
        least(board)[1].clear()
        self.assertEqual(liars(board, [1, 1]), [1, 2])
        self.assertEqual(quarrels(board), [(0, 1), (0, 2), (1, 2)])
        self.assertEqual(suspects(board), [[0, 1], [0, 2], [1, 2]])
        self.assertEqual(len(least(board)[1]), 2)

    def test_what_was_told_stays(self):
        board = self.board()
        told = (liars(board, [1, 1]), quarrels(board), suspects(board), least(board))
        before = repr(told)
        board.hush(0, 0)
        board.tell(2, 0, 3, 3)
        for deed in (quarrels, suspects, least):
            deed(board)
        self.assertEqual(repr(told), before)


if __name__ == "__main__":
    unittest.main()
