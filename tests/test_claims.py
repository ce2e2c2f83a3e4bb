"""Points 19 and 20: claims and when a course meets one, paces and what is wanted; and what point 2 says of them."""

import itertools
import unittest

from gaze.boards import Board
from gaze.claims import meets, paces, wanted
from gaze.errors import NoClaim
from tests.helper import (
    GREAT, GREATEST, Draws, is_met, paces_by_hand, some_board, some_claim, wanted_by_hand, walks,
)

ALL = (None, None)
# Parts that a board of 4 turns hasn't.
NO_PARTS = [
    ("at", -1, ALL), ("at", 4, ALL), ("at", 5, ALL), ("at", -4, ALL), ("at", GREAT, ALL), ("at", -GREAT, ALL),
    ("step", -1, ALL), ("step", 3, ALL), ("step", 4, ALL), ("step", -2, ALL), ("step", GREAT, ALL),
    ("step", -GREAT, ALL),
    ("", 0, ALL), ("At", 0, ALL), ("AT", 0, ALL), ("steps", 0, ALL), ("ste", 0, ALL), ("at ", 0, ALL),
    ("a", 0, ALL), ("on", 1, (0, 1)), ("word", 2, (None, 3)),
]


class MeetsTest(unittest.TestCase):
    def assert_met(self, course, *claim):
        self.assertIs(meets(course, list(claim)), True, claim)

    def assert_missed(self, course, *claim):
        self.assertIs(meets(course, list(claim)), False, claim)

    def test_the_empty_claim(self):
        for course in [[0], [5, -3], [GREATEST, -GREATEST, 0]]:
            self.assert_met(course)

    def test_at(self):
        self.assert_met([4, 7, 7], ("at", 1, (7, 9)))
        self.assert_met([4, 7, 7], ("at", 1, (5, 7)))
        self.assert_missed([4, 7, 7], ("at", 1, (8, 9)))
        self.assert_missed([4, 7, 7], ("at", 1, (5, 6)))
        self.assert_missed([4, 7, 7], ("at", 0, (7, 9)))
        self.assert_met([4, 7, 8], ("at", 2, (8, 8)))

    def test_step(self):
        self.assert_met([4, 7, 5], ("step", 0, (3, 3)))
        self.assert_missed([4, 7, 5], ("step", 0, (-3, -3)))
        self.assert_met([4, 7, 5], ("step", 1, (-2, -2)))
        self.assert_missed([4, 7, 5], ("step", 1, (-1, 2)))
        self.assert_missed([4, 7, 5], ("step", 1, (-9, -3)))

    def test_open_ends(self):
        self.assert_met([4, 7], ("at", 0, (None, 4)), ("at", 1, (7, None)), ("step", 0, (None, 3)))
        self.assert_met([4, 7], ("at", 0, ALL), ("step", 0, ALL), ("step", 0, (3, None)))
        self.assert_missed([4, 7], ("at", 0, (None, 3)))
        self.assert_missed([4, 7], ("at", 1, (8, None)))
        self.assert_missed([4, 7], ("step", 0, (None, 2)))
        self.assert_missed([4, 7], ("step", 0, (4, None)))

    def test_all_parts_must_hold(self):
        good, bad, other = ("at", 0, (4, 4)), ("at", 1, (0, 1)), ("step", 0, (3, 5))
        self.assert_met([4, 7], good, other)
        for claim in itertools.permutations([good, bad, other]):
            self.assert_missed([4, 7], *claim)

    def test_several_of_one_turn(self):
        self.assert_met([4, 7], ("at", 0, (None, 4)), ("at", 0, (4, None)), ("at", 0, (0, 9)))
        self.assert_missed([4, 7], ("at", 0, (None, 4)), ("at", 0, (5, None)))
        self.assert_missed([4, 7], ("step", 0, (0, 2)), ("step", 0, (3, 4)))

    def test_very_great_numbers(self):
        self.assert_met([-GREATEST, GREATEST], ("step", 0, (2 * GREATEST, 2 * GREATEST)))
        self.assert_missed([-GREATEST, GREATEST], ("step", 0, (None, 2 * GREATEST - 1)))

    def test_a_longer_course_than_the_claim_speaks_of(self):
        self.assert_met([1, 2, 3, 99], ("at", 0, (1, 1)), ("step", 1, (1, 1)))

    def test_against_every_small_course(self):
        draws = Draws(19)
        for _ in range(60):
            board = some_board(draws, Board)
            claim = some_claim(draws, board, parts=4)
            for course in walks([(-2, 2)] * (board.turns - 1), -2, 2):
                self.assertIs(meets(course, claim), is_met(course, claim), (course, claim))


class PacesTest(unittest.TestCase):
    def test_without_parts(self):
        self.assertEqual(paces(Board(1, 4, 2, 1, 0), []), [(-1, 2)] * 3)
        self.assertEqual(paces(Board(1, 2, 0, 0, 0), []), [(0, 0)])
        self.assertEqual(paces(Board(1, 3, 0, GREATEST, 0), []), [(-GREATEST, 0)] * 2)
        self.assertEqual(len(paces(Board(7, 12, 5, 0, 3), [])), 11)

    def test_one_turn_has_no_step(self):
        self.assertEqual(paces(Board(1, 1, 2, 1, 0), []), [])
        self.assertEqual(paces(Board(1, 1, 2, 1, 0), [("at", 0, (1, 2))]), [])

    def test_parts_of_steps(self):
        board = Board(1, 4, 2, 3, 0)
        claim = [("step", 2, (0, 9)), ("step", 0, (None, 1))]
        self.assertEqual(paces(board, claim), [(-3, 1), (-3, 2), (0, 2)])

    def test_several_of_one_step(self):
        board = Board(1, 3, 9, 9, 0)
        claim = [("step", 1, (-5, None)), ("step", 1, (None, 4)), ("step", 1, (-7, 2))]
        for order in itertools.permutations(claim):
            self.assertEqual(paces(board, list(order)), [(-9, 9), (-5, 2)])

    def test_open_ends_say_nothing(self):
        self.assertEqual(paces(Board(1, 2, 2, 1, 0), [("step", 0, ALL)]), [(-1, 2)])

    def test_none_where_no_number_is_left(self):
        board = Board(1, 3, 2, 1, 0)
        self.assertEqual(paces(board, [("step", 0, (3, 5))]), [None, (-1, 2)])
        self.assertEqual(paces(board, [("step", 0, (2, 5))]), [(2, 2), (-1, 2)])
        self.assertEqual(paces(board, [("step", 1, (None, -2))]), [(-1, 2), None])
        self.assertEqual(paces(board, [("step", 1, (None, -1))]), [(-1, 2), (-1, -1)])
        self.assertEqual(paces(board, [("step", 1, (0, 0)), ("step", 1, (1, 1))]), [(-1, 2), None])
        many = [("step", 1, (5, 6)), ("step", 1, ALL), ("step", 1, (0, 1)), ("step", 0, (1, 1))]
        self.assertEqual(paces(board, many), [(1, 1), None])

    def test_parts_at_turns_say_nothing(self):
        board = Board(1, 3, 2, 1, 0)
        self.assertEqual(paces(board, [("at", 0, (1, 1)), ("at", 1, (9, 9)), ("at", 2, (1, 1))]), [(-1, 2), (-1, 2)])

    def test_words_say_nothing(self):
        board = Board(1, 2, 2, 1, 0)
        board.tell(0, 0, 5, 5)
        self.assertEqual(paces(board, []), [(-1, 2)])


class WantedTest(unittest.TestCase):
    def test_without_parts(self):
        self.assertEqual(wanted(Board(1, 4, 2, 1, 0), []), [ALL] * 4)
        self.assertEqual(wanted(Board(1, 1, 2, 1, 0), []), [ALL])

    def test_parts(self):
        claim = [("at", 2, (3, None)), ("at", 0, (1, 2))]
        self.assertEqual(wanted(Board(1, 4, 2, 1, 0), claim), [(1, 2), ALL, (3, None), ALL])

    def test_several_of_one_turn(self):
        claim = [("at", 1, (0, None)), ("at", 1, (None, 8)), ("at", 1, (3, 9))]
        for order in itertools.permutations(claim):
            self.assertEqual(wanted(Board(1, 2, 0, 0, 0), list(order)), [ALL, (3, 8)])

    def test_none_where_no_number_is_left(self):
        board = Board(1, 2, 2, 1, 0)
        self.assertEqual(wanted(board, [("at", 1, (1, 2)), ("at", 1, (3, 4))]), [ALL, None])
        self.assertEqual(wanted(board, [("at", 1, (1, 3)), ("at", 1, (3, 4))]), [ALL, (3, 3)])
        self.assertEqual(wanted(board, [("at", 0, (5, None)), ("at", 0, (None, 4)), ("at", 0, ALL)]), [None, ALL])

    def test_parts_of_steps_say_nothing(self):
        self.assertEqual(wanted(Board(1, 2, 2, 1, 0), [("step", 0, (1, 1))]), [ALL, ALL])

    def test_words_and_moves_say_nothing(self):
        board = Board(1, 2, 0, 0, 0)
        board.tell(0, 0, 5, 5)
        self.assertEqual(wanted(board, [("at", 0, (1, 1)), ("at", 1, (9, 9))]), [(1, 1), (9, 9)])

    def test_against_a_reckoning_by_hand(self):
        draws = Draws(20)
        for _ in range(300):
            board = some_board(draws, Board, turns=4)
            claim = some_claim(draws, board, parts=8)
            self.assertEqual(wanted(board, claim), wanted_by_hand(board, claim), claim)
            self.assertEqual(paces(board, claim), paces_by_hand(board, claim), claim)


class NoClaimTest(unittest.TestCase):
    def assert_refused(self, board, claim):
        for deed in (paces, wanted):
            with self.subTest(claim=claim, deed=deed.__name__), self.assertRaises(NoClaim):
                deed(board, claim)

    def test_parts_that_the_board_has_not(self):
        board = Board(2, 4, 2, 1, 1)
        for part in NO_PARTS:
            self.assert_refused(board, [part])

    def test_bounds_are_taken(self):
        board = Board(2, 4, 2, 1, 1)
        for part in [("at", 0, ALL), ("at", 3, ALL), ("step", 0, ALL), ("step", 2, ALL)]:
            self.assertEqual(paces(board, [part]), [(-1, 2)] * 3)
            self.assertEqual(wanted(board, [part]), [ALL] * 4)

    def test_whatever_else_the_claim_says(self):
        board = Board(2, 4, 2, 1, 1)
        for part in NO_PARTS:
            for impossible in [
                [("at", 1, (1, 1)), ("at", 1, (2, 2))], [("step", 0, (8, 9))],
                [("step", 0, (1, 1)), ("step", 0, (2, 2))],
            ]:
                self.assert_refused(board, impossible + [part])
                self.assert_refused(board, [part] + impossible)

    def test_one_turn_has_no_step(self):
        board = Board(1, 1, 2, 1, 0)
        for turn in [-1, 0, 1]:
            self.assert_refused(board, [("step", turn, ALL)])
        self.assert_refused(board, [("at", 1, ALL)])
        self.assertEqual(wanted(board, [("at", 0, (1, 2))]), [(1, 2)])


class AskersOwnTest(unittest.TestCase):
    def test_what_is_handed_in_stays(self):
        board = Board(2, 3, 2, 1, 1)
        board.tell(0, 1, 4, 5)
        course, claim = [4, 5, 6], [("step", 1, (0, 1)), ("at", 2, (6, None)), ("at", 2, (None, 9))]
        meets(course, claim)
        paces(board, claim)
        wanted(board, claim)
        with self.assertRaises(NoClaim):
            wanted(board, claim + [("at", 9, ALL)])
        self.assertEqual(course, [4, 5, 6])
        self.assertEqual(claim, [("step", 1, (0, 1)), ("at", 2, (6, None)), ("at", 2, (None, 9))])
        self.assertEqual(board.tellings(), [(0, 1, (4, 5))])

    def test_told_lists_are_the_askers(self):
        board, claim = Board(2, 3, 2, 1, 1), [("at", 0, (1, 2))]
        first, second = paces(board, claim), wanted(board, claim)
        first.append("changed")
        second[0] = "changed"
        self.assertEqual(paces(board, claim), [(-1, 2), (-1, 2)])
        self.assertEqual(wanted(board, claim), [(1, 2), ALL, ALL])

    def test_what_was_told_stays(self):
        board, claim = Board(2, 3, 2, 1, 1), [("at", 0, (1, 2)), ("step", 0, (0, 0))]
        first, second = paces(board, claim), wanted(board, claim)
        claim.append(("at", 1, (7, 7)))
        claim[1] = ("step", 1, (1, 1))
        board.tell(0, 0, 5, 5)
        self.assertEqual(first, [(0, 0), (-1, 2)])
        self.assertEqual(second, [(1, 2), ALL, ALL])


if __name__ == "__main__":
    unittest.main()
