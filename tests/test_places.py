"""Point 28, and point 3 on places: where the thing may have been; and what point 2 says of them."""

import unittest

from gaze.boards import Board
from gaze.errors import NoClaim
from gaze.papers import ask
from gaze.places import places, strips
from gaze.stretches import hull
from gaze.votes import agree
from tests.helper import (
    GREAT, GREATEST, Draws, board_of, fitting, gathered_by_hand, is_fit, is_held, refutes, some_board,
)

ALL = (None, None)


class PlacesTest(unittest.TestCase):
    def test_no_word(self):
        for most in range(3):
            board = Board(2, 3, 2, 1, most)
            for turn in range(3):
                self.assertEqual(places(board, turn), [ALL])
            self.assertEqual(strips(board), [ALL] * 3)

    def test_one_word(self):
        board = board_of(Board(2, 3, 2, 1, 0), (1, 1, 10, 20))
        self.assertEqual([places(board, turn) for turn in range(3)], [[(8, 21)], [(10, 20)], [(9, 22)]])
        self.assertEqual(places(board.allowing(1), 1), [ALL])

    def test_places_that_lie_apart(self):
        board = board_of(Board(2, 2, 1, 1, 1), (0, 0, 1, 1), (1, 0, 7, 8))
        self.assertEqual(places(board, 0), [(1, 1), (7, 8)])
        self.assertEqual(places(board, 1), [(0, 2), (6, 9)])
        self.assertEqual(strips(board), [(1, 8), (0, 9)])

    def test_neighbours_are_gathered(self):
        board = board_of(Board(2, 2, 1, 1, 1), (0, 0, 1, 1), (1, 0, 4, 4))
        self.assertEqual(places(board, 0), [(1, 1), (4, 4)])
        self.assertEqual(places(board, 1), [(0, 5)])

    def test_two_of_three_agree(self):
        board = board_of(Board(3, 1, 0, 0, 1), (0, 0, 0, 4), (1, 0, 3, 9), (2, 0, 7, 12))
        self.assertEqual(places(board, 0), [(3, 4), (7, 9)])
        self.assertEqual(places(board.allowing(2), 0), [(0, 12)])
        self.assertEqual(places(board.allowing(0), 0), [])

    def test_words_of_one_eye_stand_and_fall_together(self):
        # Who believes eye 0 at turn 0 believes it at turn 1.
        board = board_of(Board(2, 2, 0, 0, 1), (0, 0, 0, 5), (0, 1, 5, 9), (1, 0, 1, 1), (1, 1, 1, 1))
        self.assertEqual(places(board, 0), [(1, 1), (5, 5)])
        self.assertEqual(places(board, 1), [(1, 1), (5, 5)])

    def test_open_ends(self):
        board = board_of(Board(2, 2, 2, 1, 0), (0, 0, 5, None), (1, 1, None, 3))
        self.assertEqual(places(board, 0), [])
        board.tell(1, 1, None, 4)
        self.assertEqual(strips(board), [(5, 5), (4, 4)])
        self.assertEqual(places(board.allowing(1), 0), [ALL])
        board.hush(1, 1)
        self.assertEqual(strips(board), [(5, None), (4, None)])

    def test_open_ends_that_lie_apart(self):
        board = board_of(Board(2, 1, 0, 0, 1), (0, 0, None, 3), (1, 0, 5, None))
        self.assertEqual(places(board, 0), [(None, 3), (5, None)])
        self.assertEqual(strips(board), [ALL])

    def test_no_course_that_fits(self):
        board = board_of(Board(2, 3, 1, 1, 0), (0, 0, 1, 1), (1, 2, 4, 4))
        for turn in range(3):
            self.assertEqual(places(board, turn), [])
        self.assertEqual(strips(board), [None, None, None])

    def test_all_may_be_wrong(self):
        board = board_of(Board(2, 2, 0, 0, 2), (0, 0, 1, 1), (1, 0, 2, 2))
        self.assertEqual(strips(board), [ALL, ALL])

    def test_very_great(self):
        board = board_of(Board(1, 12, GREATEST, GREAT, 0), (0, 0, -GREATEST, GREATEST))
        self.assertEqual(places(board, 11), [(-GREATEST - 11 * GREAT, 12 * GREATEST)])

    def test_a_turn_that_the_board_has_not(self):
        fit = board_of(Board(2, 3, 1, 1, 0), (0, 0, 1, 1))
        unfit = board_of(Board(2, 3, 1, 1, 0), (0, 0, 1, 1), (1, 0, 2, 2))
        for board in (fit, unfit, Board(7, 3, 0, 0, 7)):
            for turn in [-1, 3, 4, -3, -4, 12, GREAT, -GREAT]:
                with self.subTest(turn=turn), self.assertRaises(NoClaim):
                    places(board, turn)


class AllCoursesTest(unittest.TestCase):
    def test_against_every_course(self):
        # Words end from -3 to 3 and courses move by at most 4 in all: beyond 8 all numbers are alike.
        draws = Draws(32)
        forms = {}
        for _ in range(200):
            board = some_board(draws, Board, eyes=4, words=8 if draws.number(0, 1) else 16, moves=draws.number(0, 2))
            courses = fitting(board, -12, 12)
            hulls = []
            for turn in range(board.turns):
                numbers = {course[turn] for course in courses if -8 <= course[turn] <= 8}
                expected = gathered_by_hand(numbers, -8, 8)
                told = places(board, turn)
                self.assertEqual(told, expected, (board.tellings(), turn))
                self.assertTrue(all(type(one) is tuple for one in told))
                forms[min(len(told), 2)] = forms.get(min(len(told), 2), 0) + 1
                hulls.append(hull(expected))
            self.assertEqual(strips(board), hulls)
        self.assertEqual(sorted(forms), [0, 1, 2])
        self.assertGreater(min(forms.values()), 10, forms)

    def test_each_number_has_a_course_or_a_paper(self):
        draws = Draws(33)
        for _ in range(80):
            board = some_board(draws, Board, eyes=5, turns=5, words=12)
            turn = draws.number(0, board.turns - 1)
            told = places(board, turn)
            for number in range(-5, 6):
                claim = [("at", turn, (number, number))]
                answer = ask(board, claim)
                if any(is_held(one, number) for one in told):
                    self.assertEqual(answer[0], "may")
                    self.assertTrue(is_fit(board, answer[1]))
                    self.assertEqual(answer[1][turn], number)
                else:
                    self.assertEqual(answer[0], "never")
                    self.assertTrue(refutes(board, claim, answer[1]))

    def test_with_one_turn_places_and_votes_agree(self):
        draws = Draws(34)
        for _ in range(150):
            board = some_board(draws, Board, eyes=7, turns=1, words=9, ends=6)
            words = [word for eye, turn, word in board.tellings()]
            self.assertEqual(places(board, 0), agree(words, len(words) - board.most), board.tellings())

    def test_strips_are_the_hulls_of_places(self):
        draws = Draws(35)
        for _ in range(60):
            board = some_board(draws, Board, eyes=7, turns=12, words=40, ends=9)
            self.assertEqual(strips(board), [hull(places(board, turn)) for turn in range(board.turns)])


class AskersOwnTest(unittest.TestCase):
    def board(self):
        return board_of(Board(2, 2, 1, 1, 1), (0, 0, 1, 1), (1, 0, 7, 8))

    def test_the_board_stays(self):
        board = self.board()
        places(board, 0)
        strips(board)
        with self.assertRaises(NoClaim):
            places(board, 2)
        self.assertEqual(board.tellings(), self.board().tellings())
        self.assertEqual(board.most, 1)

    def test_told_lists_are_the_askers(self):
        board = self.board()
        places(board, 0).clear()
        strips(board)[0] = "changed"
        self.assertEqual(places(board, 0), [(1, 1), (7, 8)])
        self.assertEqual(strips(board), [(1, 8), (0, 9)])

    def test_what_was_told_stays(self):
        board = self.board()
        told = (places(board, 0), strips(board))
        board.tell(1, 0, 1, 1)
        board.hush(0, 0)
        places(board, 0)
        self.assertEqual(told, ([(1, 1), (7, 8)], [(1, 8), (0, 9)]))


if __name__ == "__main__":
    unittest.main()
