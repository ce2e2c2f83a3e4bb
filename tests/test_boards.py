"""Points 16 and 17: boards and the boards made of them, and what point 2 says of them."""

import itertools
import unittest

from gaze.boards import Board
from gaze.errors import NoBoard, NoTelling
from tests.helper import GREAT, GREATEST, Draws

# Spots that a board of 3 eyes and 4 turns hasn't.
NO_SPOTS = [
    (-1, 0), (3, 0), (0, -1), (0, 4), (-1, -1), (3, 4), (-3, 0), (0, -4), (7, 2), (2, 12), (GREAT, 0), (0, -GREAT),
]


def board_with_words():
    board = Board(3, 4, 2, 1, 1)
    board.tell(2, 0, None, 5)
    board.tell(0, 3, 1, 4)
    board.tell(0, 1, -2, None)
    board.tell(1, 2, 7, 7)
    return board


WORDS = [(0, 1, (-2, None)), (0, 3, (1, 4)), (1, 2, (7, 7)), (2, 0, (None, 5))]


def numbers_of(board):
    return (board.eyes, board.turns, board.up, board.down, board.most)


class MakingTest(unittest.TestCase):
    def assert_made(self, *numbers):
        board = Board(*numbers)
        self.assertEqual(numbers_of(board), numbers)
        self.assertEqual(board.tellings(), [])

    def assert_refused(self, *numbers):
        with self.subTest(numbers=numbers), self.assertRaises(NoBoard):
            Board(*numbers)

    def test_ordinary(self):
        self.assert_made(3, 4, 2, 1, 1)

    def test_eyes(self):
        for eyes in range(1, 8):
            self.assert_made(eyes, 4, 2, 1, 1)
        for eyes in [0, 8, -1, 9, -GREAT, GREAT]:
            self.assert_refused(eyes, 4, 2, 1, 0)
            self.assert_refused(eyes, 4, 2, 1, eyes)

    def test_turns(self):
        for turns in range(1, 13):
            self.assert_made(3, turns, 2, 1, 1)
        for turns in [0, 13, -1, 14, -GREAT, GREAT]:
            self.assert_refused(3, turns, 2, 1, 1)

    def test_up_and_down(self):
        for far in [0, 1, 2, GREAT, GREATEST]:
            self.assert_made(3, 4, far, 1, 1)
            self.assert_made(3, 4, 2, far, 1)
            self.assert_made(3, 4, far, far, 1)
        for far in [-1, -2, -GREAT, -GREATEST]:
            self.assert_refused(3, 4, far, 1, 1)
            self.assert_refused(3, 4, 2, far, 1)
            self.assert_refused(3, 4, far, far, 1)

    def test_most(self):
        for eyes in range(1, 8):
            for most in range(eyes + 1):
                self.assert_made(eyes, 4, 2, 1, most)
            for most in [-1, eyes + 1, eyes + 2, -GREAT, GREAT]:
                self.assert_refused(eyes, 4, 2, 1, most)

    def test_least_and_greatest(self):
        self.assert_made(1, 1, 0, 0, 0)
        self.assert_made(1, 1, 0, 0, 1)
        self.assert_made(7, 12, GREATEST, GREATEST, 7)


class WordsTest(unittest.TestCase):
    def test_told(self):
        board = Board(3, 4, 2, 1, 1)
        self.assertIsNone(board.tell(1, 2, 3, 5))
        self.assertEqual(board.word(1, 2), (3, 5))
        self.assertIs(type(board.word(1, 2)), tuple)

    def test_none_where_none_stands(self):
        board = Board(3, 4, 2, 1, 1)
        for eye, turn in itertools.product(range(3), range(4)):
            self.assertIsNone(board.word(eye, turn))
        board.tell(1, 2, 3, 5)
        self.assertIsNone(board.word(2, 1))
        self.assertIsNone(board.word(1, 1))
        self.assertIsNone(board.word(0, 2))

    def test_open_ends_one_number_and_very_great_numbers(self):
        board = Board(3, 4, 2, 1, 1)
        for lo, hi in [(None, 5), (-5, None), (None, None), (0, 0), (None, 0), (0, None), (-GREATEST, GREATEST)]:
            board.tell(0, 0, lo, hi)
            self.assertEqual(board.word(0, 0), (lo, hi))

    def test_told_anew(self):
        board = board_with_words()
        board.tell(0, 3, -9, -8)
        self.assertEqual(board.word(0, 3), (-9, -8))
        self.assertEqual(board.tellings(), [WORDS[0], (0, 3, (-9, -8)), WORDS[2], WORDS[3]])

    def test_every_spot(self):
        board = Board(7, 12, 0, 0, 0)
        spots = list(itertools.product(range(7), range(12)))
        for eye, turn in spots[::-1]:
            board.tell(eye, turn, 100 * eye + turn, None)
        self.assertEqual(board.tellings(), [(eye, turn, (100 * eye + turn, None)) for eye, turn in spots])

    def test_tellings_by_eyes_then_by_turns(self):
        self.assertEqual(board_with_words().tellings(), WORDS)
        board = Board(3, 12, 2, 1, 1)
        for eye, turn in [(1, 10), (0, 11), (1, 9), (2, 0), (0, 2), (1, 11)]:
            board.tell(eye, turn, 0, 0)
        spots = [(eye, turn) for eye, turn, word in board.tellings()]
        self.assertEqual(spots, [(0, 2), (0, 11), (1, 9), (1, 10), (1, 11), (2, 0)])

    def test_taken_away(self):
        board = board_with_words()
        self.assertIsNone(board.hush(0, 3))
        self.assertIsNone(board.word(0, 3))
        self.assertEqual(board.tellings(), [WORDS[0], WORDS[2], WORDS[3]])
        board.tell(0, 3, 6, 7)
        self.assertEqual(board.word(0, 3), (6, 7))

    def test_all_taken_away(self):
        board = board_with_words()
        for eye, turn, word in board.tellings():
            board.hush(eye, turn)
        self.assertEqual(board.tellings(), [])

    def test_a_word_with_two_open_ends_stands(self):
        board = Board(3, 4, 2, 1, 1)
        board.tell(1, 1, None, None)
        self.assertEqual(board.tellings(), [(1, 1, (None, None))])
        board.hush(1, 1)
        self.assertEqual(board.tellings(), [])

    def test_mixed_deeds(self):
        draws = Draws()
        board = Board(3, 4, 2, 1, 1)
        stand = {}
        for _ in range(1000):
            spot = (draws.number(-1, 3), draws.number(-1, 4))
            there = 0 <= spot[0] < 3 and 0 <= spot[1] < 4
            lo, hi = draws.number(-3, 3), draws.number(-3, 3)
            telling = draws.number(0, 1) == 0
            if there and (lo <= hi if telling else spot in stand):
                if telling:
                    board.tell(*spot, lo, hi)
                    stand[spot] = (lo, hi)
                else:
                    board.hush(*spot)
                    del stand[spot]
            else:
                with self.assertRaises(NoTelling):
                    board.tell(*spot, lo, hi) if telling else board.hush(*spot)
            self.assertEqual(board.tellings(), [(*spot, stand[spot]) for spot in sorted(stand)])


class RefusedWordsTest(unittest.TestCase):
    def assert_refused(self, board, deed):
        with self.assertRaises(NoTelling):
            deed()
        self.assertEqual(board.tellings(), WORDS)
        self.assertEqual(numbers_of(board), (3, 4, 2, 1, 1))

    def test_an_eye_or_a_turn_that_the_board_has_not(self):
        board = board_with_words()
        for eye, turn in NO_SPOTS:
            with self.subTest(eye=eye, turn=turn):
                self.assert_refused(board, lambda: board.tell(eye, turn, 1, 2))
                self.assert_refused(board, lambda: board.tell(eye, turn, 2, 1))
                self.assert_refused(board, lambda: board.hush(eye, turn))
                self.assert_refused(board, lambda: board.word(eye, turn))

    def test_spots_at_the_bounds_are_there(self):
        board = Board(3, 4, 2, 1, 1)
        for eye, turn in [(0, 0), (2, 0), (0, 3), (2, 3)]:
            board.tell(eye, turn, 1, 2)
            self.assertEqual(board.word(eye, turn), (1, 2))
            board.hush(eye, turn)

    def test_lo_above_hi(self):
        board = board_with_words()
        for lo, hi in [(2, 1), (0, -1), (-1, -2), (GREAT + 1, GREAT), (GREATEST, -GREATEST)]:
            with self.subTest(lo=lo, hi=hi):
                self.assert_refused(board, lambda: board.tell(0, 0, lo, hi))
                self.assert_refused(board, lambda: board.tell(0, 3, lo, hi))

    def test_taking_away_what_does_not_stand(self):
        board = board_with_words()
        self.assert_refused(board, lambda: board.hush(0, 0))
        self.assert_refused(board, lambda: board.hush(2, 3))
        self.assert_refused(board, lambda: board.hush(1, 0))

    def test_taking_away_twice(self):
        board = board_with_words()
        board.tell(2, 3, 0, 0)
        board.hush(2, 3)
        self.assert_refused(board, lambda: board.hush(2, 3))

    def test_on_a_board_without_words(self):
        board = Board(1, 1, 0, 0, 0)
        for deed in [lambda: board.hush(0, 0), lambda: board.tell(0, 1, 0, 0), lambda: board.tell(1, 0, 0, 0)]:
            with self.assertRaises(NoTelling):
                deed()
        self.assertEqual(board.tellings(), [])


class OtherBoardsTest(unittest.TestCase):
    def assert_apart(self, old, new, words):
        """A deed on one changes nothing on the other; words are what stands on the new one."""
        old.tell(1, 0, 50, 60)
        old.tell(0, 1, 70, 80)
        old.hush(2, 0)
        self.assertEqual(new.tellings(), words)
        stand = old.tellings()
        for eye, turn, word in words:
            new.hush(eye, turn)
        new.tell(2, 3, -60, -50)
        new.tell(1, 2, -60, -50)
        self.assertEqual(old.tellings(), stand)
        self.assertEqual(new.tellings(), [(1, 2, (-60, -50)), (2, 3, (-60, -50))])

    def assert_board(self, board, numbers, words):
        self.assertIs(type(board), Board)
        self.assertEqual(numbers_of(board), numbers)
        self.assertEqual(board.tellings(), words)

    def test_twin(self):
        old = board_with_words()
        new = old.twin()
        self.assert_board(new, (3, 4, 2, 1, 1), WORDS)
        self.assert_board(old, (3, 4, 2, 1, 1), WORDS)
        self.assert_apart(old, new, WORDS)

    def test_twin_without_words(self):
        self.assert_board(Board(7, 12, GREAT, 0, 7).twin(), (7, 12, GREAT, 0, 7), [])

    def test_twin_of_a_twin(self):
        old = board_with_words()
        new = old.twin().twin()
        self.assert_apart(old, new, WORDS)

    def test_keeping_some(self):
        old = board_with_words()
        new = old.keeping([(0, 3), (2, 0)])
        self.assert_board(new, (3, 4, 2, 1, 1), [WORDS[1], WORDS[3]])
        self.assert_board(old, (3, 4, 2, 1, 1), WORDS)
        self.assert_apart(old, new, [WORDS[1], WORDS[3]])

    def test_keeping_in_any_order_and_twice(self):
        old = board_with_words()
        for spots in itertools.permutations([(0, 1), (2, 0), (1, 2)]):
            words = [WORDS[0], WORDS[2], WORDS[3]]
            self.assert_board(old.keeping(list(spots)), (3, 4, 2, 1, 1), words)
            self.assert_board(old.keeping(list(spots) * 2), (3, 4, 2, 1, 1), words)
        self.assert_board(old.keeping([(0, 1), (0, 1)]), (3, 4, 2, 1, 1), [WORDS[0]])

    def test_keeping_none_and_all(self):
        old = board_with_words()
        self.assert_board(old.keeping([]), (3, 4, 2, 1, 1), [])
        self.assert_board(old.keeping([(eye, turn) for eye, turn, word in WORDS]), (3, 4, 2, 1, 1), WORDS)
        self.assert_apart(old, old.keeping([]), [])

    def test_keeping_where_no_word_stands(self):
        old = board_with_words()
        for spot in [(0, 0), (2, 3), (1, 0)] + NO_SPOTS:
            for spots in [[spot], [(0, 1), spot], [spot, (0, 1)], [(0, 1), spot, (2, 0)]]:
                with self.subTest(spots=spots), self.assertRaises(NoTelling):
                    old.keeping(spots)
                self.assert_board(old, (3, 4, 2, 1, 1), WORDS)

    def test_keeping_what_was_taken_away(self):
        old = board_with_words()
        old.hush(0, 1)
        with self.assertRaises(NoTelling):
            old.keeping([(0, 1)])

    def test_allowing(self):
        old = board_with_words()
        for most in range(4):
            self.assert_board(old.allowing(most), (3, 4, 2, 1, most), WORDS)
        self.assert_board(old, (3, 4, 2, 1, 1), WORDS)
        self.assert_apart(old, old.allowing(2), WORDS)

    def test_allowing_the_same_number(self):
        old = board_with_words()
        new = old.allowing(1)
        self.assertIsNot(new, old)
        self.assert_apart(old, new, WORDS)

    def test_allowing_beyond_the_bounds(self):
        old = board_with_words()
        for most in [-1, 4, -2, 5, 7, GREAT, -GREAT]:
            with self.subTest(most=most), self.assertRaises(NoBoard):
                old.allowing(most)
            self.assert_board(old, (3, 4, 2, 1, 1), WORDS)

    def test_others_made_of_others(self):
        new = board_with_words().allowing(3).keeping([(1, 2), (0, 1)]).twin()
        self.assert_board(new, (3, 4, 2, 1, 3), [WORDS[0], WORDS[2]])

    def test_up_and_down_are_not_mixed_up(self):
        old = Board(2, 3, 5, 9, 0)
        for new in [old.twin(), old.keeping([]), old.allowing(0)]:
            self.assert_board(new, (2, 3, 5, 9, 0), [])


class AskersOwnTest(unittest.TestCase):
    def test_a_told_list_may_be_changed(self):
        board = board_with_words()
        told = board.tellings()
        told[0] = (1, 1, (0, 0))
        told.append((2, 2, (0, 0)))
        self.assertEqual(board.tellings(), WORDS)
        told.clear()
        self.assertEqual(board.tellings(), WORDS)

    def test_what_was_told_stays(self):
        board = board_with_words()
        told = board.tellings()
        word = board.word(0, 3)
        board.tell(0, 3, 100, 100)
        board.hush(0, 1)
        self.assertEqual(told, WORDS)
        self.assertEqual(word, (1, 4))

    def test_the_spots_handed_in_stay(self):
        spots = [(2, 0), (0, 1), (2, 0)]
        board = board_with_words().keeping(spots)
        self.assertEqual(spots, [(2, 0), (0, 1), (2, 0)])
        spots.clear()
        self.assertEqual(board.tellings(), [WORDS[0], WORDS[3]])

    def test_two_boards_stand_apart(self):
        one = Board(3, 4, 2, 1, 1)
        other = Board(3, 4, 2, 1, 1)
        one.tell(0, 0, 1, 2)
        self.assertEqual(other.tellings(), [])


if __name__ == "__main__":
    unittest.main()
