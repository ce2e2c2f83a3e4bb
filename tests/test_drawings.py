"""Point 38: drawings; and what point 2 says of them."""

import unittest

from gaze.boards import Board
from gaze.drawings import drawing
from gaze.errors import NoStretch
from gaze.places import places
from tests.helper import GREAT, GREATEST, Draws, board_of, is_held, some_board


class DrawingTest(unittest.TestCase):
    def test_no_word(self):
        self.assertEqual(drawing(Board(1, 2, 0, 0, 0), -1, 2), ["  0 ####", "  1 ####"])

    def test_places_apart(self):
        board = board_of(Board(2, 2, 1, 1, 1), (0, 0, 1, 1), (1, 0, 7, 8))
        self.assertEqual(drawing(board, -1, 10), ["  0 ..#.....##..", "  1 .###...####."])
        self.assertEqual(drawing(board, 1, 8), ["  0 #.....##", "  1 ##...###"])

    def test_turns_of_two_figures(self):
        board = board_of(Board(1, 12, 1, 0, 0), (0, 0, 0, 0))
        told = drawing(board, 0, 11)
        self.assertEqual([row[:4] for row in told], [
            "  0 ", "  1 ", "  2 ", "  3 ", "  4 ", "  5 ", "  6 ", "  7 ", "  8 ", "  9 ", " 10 ", " 11 ",
        ])
        self.assertEqual([row[4:] for row in told], ["#" * n + "." * (12 - n) for n in range(1, 13)])

    def test_low_equal_to_high(self):
        board = board_of(Board(1, 2, 1, 0, 0), (0, 0, 5, 5))
        self.assertEqual(drawing(board, 5, 5), ["  0 #", "  1 #"])
        self.assertEqual(drawing(board, 6, 6), ["  0 .", "  1 #"])
        self.assertEqual(drawing(board, 4, 4), ["  0 .", "  1 ."])

    def test_low_above_high(self):
        fit = board_of(Board(1, 2, 1, 0, 0), (0, 0, 5, 5))
        unfit = board_of(Board(2, 2, 1, 0, 0), (0, 0, 5, 5), (1, 0, 6, 6))
        for board in (fit, unfit, Board(1, 1, 0, 0, 1)):
            for low, high in [(1, 0), (0, -1), (6, 5), (GREAT, -GREAT), (GREATEST, 0)]:
                with self.subTest(low=low, high=high), self.assertRaises(NoStretch):
                    drawing(board, low, high)

    def test_no_course_that_fits(self):
        board = board_of(Board(2, 3, 1, 0, 0), (0, 0, 5, 5), (1, 0, 6, 6))
        self.assertEqual(drawing(board, 4, 7), ["  0 ....", "  1 ....", "  2 ...."])

    def test_open_ends(self):
        board = board_of(Board(2, 1, 0, 0, 1), (0, 0, None, 3), (1, 0, 5, None))
        self.assertEqual(drawing(board, 2, 6), ["  0 ##.##"])

    def test_very_great_numbers(self):
        board = board_of(Board(1, 1, 0, 0, 0), (0, 0, GREATEST, None))
        self.assertEqual(drawing(board, GREATEST - 2, GREATEST + 1), ["  0 ..##"])
        self.assertEqual(drawing(board, -GREATEST, -GREATEST + 1), ["  0 .."])

    def test_sixty_signs(self):
        board = board_of(Board(1, 1, 0, 0, 0), (0, 0, 20, 39))
        self.assertEqual(drawing(board, 0, 59), ["  0 " + "." * 20 + "#" * 20 + "." * 20])

    def test_against_places(self):
        draws = Draws(43)
        for _ in range(60):
            board = some_board(draws, Board, eyes=5, turns=12, words=20, ends=6)
            low = draws.number(-9, 0)
            high = low + draws.number(0, 15)
            told = drawing(board, low, high)
            self.assertIs(type(told), list)
            self.assertEqual(len(told), board.turns)
            for turn, row in enumerate(told):
                self.assertIs(type(row), str)
                signs = [
                    "#" if any(is_held(one, n) for one in places(board, turn)) else "." for n in range(low, high + 1)
                ]
                self.assertEqual(row, f"{turn:3d} " + "".join(signs))


class AskersOwnTest(unittest.TestCase):
    def test_the_board_stays_and_the_list_is_the_askers(self):
        board = board_of(Board(1, 1, 0, 0, 0), (0, 0, 1, 1))
        told = drawing(board, 0, 2)
        drawing(board, 0, 2).clear()
        self.assertEqual(board.tellings(), [(0, 0, (1, 1))])
        board.tell(0, 0, 2, 2)
        self.assertEqual(told, ["  0 .#."])
        self.assertEqual(drawing(board, 0, 2), ["  0 ..#"])


if __name__ == "__main__":
    unittest.main()
