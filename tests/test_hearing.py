"""Point 18: how a board listens to an eye of a sort, and what point 2 says of it."""

import copy
import unittest

from gaze.boards import Board
from gaze.errors import NoTelling, OffGauge
from gaze.gauges import Gauge
from gaze.hearing import listen
from gaze.sorts import Contact, Gauged, Plain
from tests.helper import GREAT, Draws

KNOTS = [(0, 10), (4, 12), (7, 22), (10, 23)]
PLAIN = Plain((0, 1), 0)
GAUGED = Gauged((0, 1), 0, Gauge(KNOTS), 1)
CONTACT = Contact((0, 1), 0, 2, 3, 7)

WORDS = [
    (0, 0, (0, 1)), (0, 1, (2, 3)), (1, 0, (10, 11)), (1, 1, (20, 21)), (1, 3, (30, None)), (2, 3, (None, 40)),
]


def board_with_words():
    board = Board(3, 4, 2, 1, 1)
    for eye, turn, word in WORDS:
        board.tell(eye, turn, word[0], word[1])
    return board


def of_eye(board, eye):
    return [board.word(eye, turn) for turn in range(board.turns)]


class SortsTest(unittest.TestCase):
    def assert_heard(self, sort, words, told):
        board = Board(3, 4, 2, 1, 1)
        self.assertIsNone(listen(board, 1, sort, words))
        self.assertEqual(of_eye(board, 1), told)
        self.assertEqual([of_eye(board, 0), of_eye(board, 2)], [[None] * 4, [None] * 4])

    def test_plain(self):
        self.assert_heard(PLAIN, [(1, 5), None, (None, 3), (7, None)], [(1, 5), None, (None, 3), (7, None)])
        self.assert_heard(Plain((3, 2), 1), [(1, 5), (1, 5), None, (7, None)], [(-1, 7), (1, 5), None, (4, None)])
        self.assert_heard(PLAIN, [(None, None)], [(None, None), None, None, None])

    def test_gauged(self):
        self.assert_heard(GAUGED, [0, None, 5, 10], [(None, 11), None, (12, 19), (22, None)])
        eye = Gauged((1, 2), 0, Gauge(KNOTS), 20)
        self.assert_heard(eye, [5, 5, None], [(None, None), (None, None), None, None])

    def test_contact(self):
        self.assert_heard(CONTACT, [[], [1, 1], None, [0, 1]], [None, (4, None), None, (4, None)])
        self.assert_heard(CONTACT, [[0, 0], None, [1], [1, 1]], [(None, 6), None, (None, 6), (4, None)])

    def test_very_great_numbers(self):
        eye = Plain((GREAT, 1), 0)
        self.assert_heard(eye, [None, (-GREAT, GREAT)], [None, (-2 * GREAT, 2 * GREAT), None, None])


class TurnsTest(unittest.TestCase):
    def setUp(self):
        self.board = board_with_words()

    def assert_others_stay(self, eye):
        kept = [one for one in self.board.tellings() if one[0] != eye]
        self.assertEqual(kept, [one for one in WORDS if one[0] != eye])

    def test_as_many_words_as_turns(self):
        listen(self.board, 1, PLAIN, [(1, 1), (2, 2), (3, 3), (4, 4)])
        self.assertEqual(of_eye(self.board, 1), [(1, 1), (2, 2), (3, 3), (4, 4)])
        self.assert_others_stay(1)

    def test_fewer_words_than_turns(self):
        listen(self.board, 1, PLAIN, [(1, 1)])
        self.assertEqual(of_eye(self.board, 1), [(1, 1), (20, 21), None, (30, None)])
        listen(self.board, 1, PLAIN, [(5, 5), (6, 6), (7, 7)])
        self.assertEqual(of_eye(self.board, 1), [(5, 5), (6, 6), (7, 7), (30, None)])
        self.assert_others_stay(1)

    def test_no_words(self):
        for eye in range(3):
            for sort in [PLAIN, GAUGED, CONTACT]:
                self.assertIsNone(listen(self.board, eye, sort, []))
                self.assertEqual(self.board.tellings(), WORDS)

    def test_none_takes_away_what_stood(self):
        listen(self.board, 1, PLAIN, [None, (5, 5), None, None])
        self.assertEqual(of_eye(self.board, 1), [None, (5, 5), None, None])
        self.assert_others_stay(1)

    def test_none_does_nothing_where_nothing_stood(self):
        listen(self.board, 2, PLAIN, [None, None, None])
        self.assertEqual(self.board.tellings(), WORDS)

    def test_none_at_all_turns(self):
        for sort in [PLAIN, GAUGED, CONTACT]:
            board = board_with_words()
            listen(board, 1, sort, [None] * 4)
            self.assertEqual(board.tellings(), [one for one in WORDS if one[0] != 1])

    def test_a_contact_without_a_state_takes_away(self):
        listen(self.board, 1, CONTACT, [[], [0, 1], [1, 1]])
        self.assertEqual(of_eye(self.board, 1), [None, None, (4, None), (30, None)])
        self.assert_others_stay(1)

    def test_a_gauged_eye_takes_away(self):
        listen(self.board, 1, GAUGED, [None, 5])
        self.assertEqual(of_eye(self.board, 1), [None, (12, 19), None, (30, None)])
        self.assert_others_stay(1)

    def test_a_word_with_two_open_ends_is_a_word(self):
        listen(self.board, 1, PLAIN, [(None, None), None])
        self.assertEqual(of_eye(self.board, 1), [(None, None), None, None, (30, None)])

    def test_first_and_last_eye(self):
        listen(self.board, 0, PLAIN, [None, None, (8, 9)])
        listen(self.board, 2, PLAIN, [(8, 9), None, None, None])
        self.assertEqual(of_eye(self.board, 0), [None, None, (8, 9), None])
        self.assertEqual(of_eye(self.board, 2), [(8, 9), None, None, None])
        self.assertEqual(of_eye(self.board, 1), [(10, 11), (20, 21), None, (30, None)])

    def test_one_sort_for_several_eyes(self):
        listen(self.board, 0, CONTACT, [[1, 1], []])
        listen(self.board, 1, CONTACT, [[], [0]])
        self.assertEqual(of_eye(self.board, 0)[:2], [(4, None), (4, None)])
        self.assertEqual(of_eye(self.board, 1)[:2], [None, None])

    def test_mixed_words(self):
        draws = Draws()
        for _ in range(200):
            words = []
            for _ in range(draws.number(0, 4)):
                lo = draws.number(-5, 5)
                words.append(draws.one_of([None, (lo, lo + 2), (None, lo), (lo, None)]))
            eye = draws.number(0, 2)
            sort = Plain((draws.number(0, 5), 1), draws.number(-2, 6))
            stood = [of_eye(self.board, one) for one in range(3)]
            listen(self.board, eye, sort, words)
            stood[eye][:len(words)] = sort.stretches(words)
            self.assertEqual([of_eye(self.board, one) for one in range(3)], stood)


class RefusedTest(unittest.TestCase):
    def assert_refused(self, refusal, eye, sort, words):
        board = board_with_words()
        before = copy.deepcopy(words)
        with self.subTest(eye=eye, words=words), self.assertRaises(refusal):
            listen(board, eye, sort, words)
        self.assertEqual(board.tellings(), WORDS)
        self.assertEqual(words, before)

    def test_an_eye_that_the_board_has_not(self):
        for eye in [-1, 3, -3, 4, 7, GREAT, -GREAT]:
            for words in [[], [None], [(1, 2)], [(1, 2), None, (3, 4), None]]:
                self.assert_refused(NoTelling, eye, PLAIN, words)
            self.assert_refused(NoTelling, eye, GAUGED, [5])
            self.assert_refused(NoTelling, eye, CONTACT, [[1]])

    def test_more_words_than_turns(self):
        for sort, word in [(PLAIN, (1, 2)), (GAUGED, 5), (CONTACT, [1, 1])]:
            for length in [5, 6, 100]:
                self.assert_refused(NoTelling, 1, sort, [word] * length)
                self.assert_refused(NoTelling, 1, sort, [None] * length)
                self.assert_refused(NoTelling, 1, sort, [word] + [None] * (length - 1))

    def test_on_the_smallest_and_the_greatest_board(self):
        for turns in [1, 12]:
            board = Board(1, turns, 0, 0, 0)
            with self.assertRaises(NoTelling):
                listen(board, 0, PLAIN, [(1, 2)] * (turns + 1))
            self.assertEqual(board.tellings(), [])
            listen(board, 0, PLAIN, [(1, 2)] * turns)
            self.assertEqual(len(board.tellings()), turns)

    def test_what_the_sort_refuses(self):
        for words in [[11], [-1], [5, 11], [5, 6, 7, 11], [None, None, -1], [None, 5, GREAT, None], [-GREAT]]:
            self.assert_refused(OffGauge, 1, GAUGED, words)

    def test_an_eye_that_the_board_has_not_comes_ahead_of_what_the_sort_refuses(self):
        for eye in [-1, 3, GREAT]:
            self.assert_refused(NoTelling, eye, GAUGED, [11])
            self.assert_refused(NoTelling, eye, GAUGED, [5, -1])

    def test_more_words_than_turns_come_ahead_of_what_the_sort_refuses(self):
        self.assert_refused(NoTelling, 1, GAUGED, [11] * 5)
        self.assert_refused(NoTelling, 1, GAUGED, [5, 5, 5, 5, 11])

    def test_both_at_once(self):
        self.assert_refused(NoTelling, 3, GAUGED, [11] * 5)


class AskersOwnTest(unittest.TestCase):
    def test_the_words_handed_in_stay(self):
        asked = [(PLAIN, [(1, 5), None]), (GAUGED, [0, None, 10]), (CONTACT, [[1, 1], None, [0], []])]
        for sort, words in asked:
            before = copy.deepcopy(words)
            listen(board_with_words(), 1, sort, words)
            self.assertEqual(words, before)

    def test_changing_the_words_afterwards_changes_nothing(self):
        board = Board(3, 4, 2, 1, 1)
        words = [(1, 5), (2, 6)]
        listen(board, 0, PLAIN, words)
        words[0] = (100, 200)
        words.clear()
        looks = [1, 1]
        listen(board, 1, CONTACT, [looks])
        looks[:] = [0, 0]
        self.assertEqual(board.tellings(), [(0, 0, (1, 5)), (0, 1, (2, 6)), (1, 0, (4, None))])

    def test_other_boards_stay(self):
        board = board_with_words()
        others = [board.twin(), board.allowing(0), board.keeping([(1, 0)])]
        listen(board, 1, PLAIN, [(5, 5), None, (7, 7), None])
        self.assertEqual([others[0].tellings(), others[1].tellings()], [WORDS, WORDS])
        self.assertEqual(others[2].tellings(), [WORDS[2]])

    def test_what_was_told_stays(self):
        board = board_with_words()
        told = board.tellings()
        listen(board, 1, PLAIN, [None] * 4)
        self.assertEqual(told, WORDS)

    def test_the_sort_stays(self):
        eye = Contact((1, 2), 1, 2, 3, 7)
        words = [[1, 1], [], None]
        told = eye.stretches(words)
        for _ in range(3):
            board = board_with_words()
            listen(board, 1, eye, words)
            self.assertEqual(of_eye(board, 1)[:3], told)


if __name__ == "__main__":
    unittest.main()
