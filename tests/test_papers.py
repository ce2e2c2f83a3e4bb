"""Point 27: what a board answers about a claim, and papers; and what point 2 says of them."""

import unittest

from gaze.boards import Board
from gaze.errors import NoClaim
from gaze.papers import ask
from tests.helper import (
    GREAT, GREATEST, Draws, board_of, fitting, is_fit, is_met, paces_by_hand, refutes, some_board, some_claim,
    wanted_by_hand,
)

ALL = (None, None)


class AnswersTest(unittest.TestCase):
    def assert_may(self, board, claim):
        told = ask(board, claim)
        self.assertEqual([type(told), len(told), told[0]], [tuple, 2, "may"], (board.tellings(), claim, told))
        self.assertIs(type(told[1]), list)
        self.assertTrue(all(type(number) is int for number in told[1]))
        self.assertTrue(is_fit(board, told[1]), (board.tellings(), told))
        self.assertTrue(is_met(told[1], claim), (claim, told))

    def assert_never(self, board, claim):
        told = ask(board, claim)
        self.assertEqual([type(told), len(told), told[0]], [tuple, 2, "never"], (board.tellings(), claim, told))
        self.assertTrue(refutes(board, claim, told[1]), (board.tellings(), claim, told))
        return told[1]


class FormsTest(AnswersTest):
    def test_step(self):
        board = Board(2, 3, 2, 1, 2)
        self.assertEqual(ask(board, [("step", 1, (3, None))]), ("never", ("step", 1)))
        self.assertEqual(ask(board, [("step", 0, (0, 0)), ("step", 0, (1, 1))]), ("never", ("step", 0)))
        self.assert_may(board, [("step", 1, (2, None))])

    def test_at(self):
        board = Board(2, 3, 2, 1, 2)
        self.assertEqual(ask(board, [("at", 2, (1, 1)), ("at", 2, (2, 2))]), ("never", ("at", 2)))
        self.assert_may(board, [("at", 2, (1, 2)), ("at", 2, (2, 3))])

    def test_step_and_at(self):
        claim = [("at", 2, (1, 1)), ("at", 2, (2, 2)), ("step", 1, (9, 9))]
        self.assert_never(Board(2, 3, 2, 1, 2), claim)

    def test_clash_of_what_is_wanted(self):
        board = Board(2, 3, 2, 1, 2)
        claim = [("at", 0, (0, 0)), ("at", 2, (5, None))]
        self.assertEqual(ask(board, claim), ("never", ("clash", (None, 0), (None, 2), None, None)))
        self.assert_may(board, [("at", 0, (0, 0)), ("at", 2, (4, None))])
        claim = [("at", 0, (0, 0)), ("at", 2, (None, -3))]
        self.assertEqual(ask(board, claim), ("never", ("clash", (None, 2), (None, 0), None, None)))

    def test_clash_through_steps_of_the_claim(self):
        board = Board(2, 3, 9, 9, 2)
        self.assert_never(board, [("at", 0, (0, 0)), ("step", 0, (1, 1)), ("step", 1, (1, 1)), ("at", 2, (3, 3))])
        self.assert_may(board, [("at", 0, (0, 0)), ("step", 0, (1, 1)), ("step", 1, (1, 1)), ("at", 2, (2, 2))])

    def test_clash_of_an_eye_and_what_is_wanted(self):
        board = board_of(Board(2, 2, 1, 1, 0), (1, 0, 0, 0))
        claim = [("at", 1, (2, None))]
        self.assertEqual(ask(board, claim), ("never", ("clash", (1, 0), (None, 1), ("full",), None)))
        claim = [("at", 1, (None, -2))]
        self.assertEqual(ask(board, claim), ("never", ("clash", (None, 1), (1, 0), None, ("full",))))
        self.assert_may(board.allowing(1), claim)

    def test_clash_of_an_eye_with_itself(self):
        board = board_of(Board(2, 2, 1, 1, 0), (1, 0, 0, 0), (1, 1, 5, 5))
        self.assertEqual(ask(board, []), ("never", ("clash", (1, 0), (1, 1), ("full",), None)))
        self.assert_may(board.allowing(1), [])

    def test_clash_of_two_eyes(self):
        board = board_of(Board(2, 1, 0, 0, 0), (0, 0, 5, 5), (1, 0, 1, 1))
        self.assertEqual(ask(board, []), ("never", ("clash", (1, 0), (0, 0), ("full",), ("full",))))
        self.assert_may(board.allowing(1), [])

    def test_clash_behind_clash(self):
        board = board_of(Board(3, 1, 0, 0, 1), (0, 0, 1, 1), (1, 0, 2, 2), (2, 0, 3, 3))
        paper = self.assert_never(board, [])
        self.assertEqual(paper[0], "clash")
        self.assertEqual(paper[3][0], "clash")
        self.assertEqual(paper[4][0], "clash")
        self.assert_may(board.allowing(2), [])

    def test_claims_that_rule_out_what_the_words_leave(self):
        # Either eye may be the one that lies: the thing is at 1 or at 7, and nowhere between.
        board = board_of(Board(2, 1, 0, 0, 1), (0, 0, 1, 1), (1, 0, 7, 7))
        for number in range(-1, 10):
            claim = [("at", 0, (number, number))]
            if number in (1, 7):
                self.assert_may(board, claim)
            else:
                self.assert_never(board, claim)
        self.assert_never(board, [("at", 0, (2, 6))])
        self.assert_never(board, [("at", 0, (8, None))])
        self.assert_never(board, [("at", 0, (None, 0))])
        self.assert_may(board, [("at", 0, (None, 1))])


class MostTest(AnswersTest):
    def test_none_may_be_wrong(self):
        board = board_of(Board(3, 2, 1, 1, 0), (0, 0, 0, 4), (1, 1, 3, 9), (2, 0, 2, 2))
        self.assert_may(board, [])
        self.assert_may(board, [("at", 1, (3, 3))])
        self.assert_never(board, [("at", 1, (4, 4))])
        board.tell(2, 0, 1, 1)
        self.assert_never(board, [])

    def test_all_may_be_wrong(self):
        words = [(eye, turn, eye, eye) for eye in range(3) for turn in range(2)]
        board = board_of(Board(3, 2, 0, 0, 3), *words)
        self.assert_may(board, [])
        self.assert_may(board, [("at", 1, (GREAT, None))])
        self.assert_never(board, [("step", 0, (1, None))])
        self.assert_never(board, [("at", 0, (1, 1)), ("at", 1, (2, 2))])

    def test_as_many_as_needed_and_one_fewer(self):
        words = [(eye, 0, eye, eye) for eye in range(7)]
        for most in range(8):
            board = board_of(Board(7, 1, 0, 0, most), *words)
            if most < 6:
                self.assert_never(board, [])
            else:
                self.assert_may(board, [])
            claim = [("at", 0, (7, None))]
            if most < 7:
                self.assert_never(board, claim)
            else:
                self.assert_may(board, claim)

    def test_eyes_that_quarrel_with_themselves(self):
        words = [(eye, turn, turn, turn) for eye in range(4) for turn in range(2)]
        for most in range(4):
            self.assert_never(board_of(Board(4, 2, 0, 0, most), *words), [])
        self.assert_may(board_of(Board(4, 2, 0, 0, 4), *words), [])

    def test_the_greatest_board(self):
        words = [(eye, turn, 10 * eye + turn, 10 * eye + turn) for eye in range(7) for turn in range(12)]
        for most in range(8):
            board = board_of(Board(7, 12, 1, 1, most), *words)
            for claim in [[], [("at", 11, (31, 31))], [("at", 5, (None, -1))]]:
                fewest = 7 if claim and claim[0][1] == 5 else 6
                if most < fewest:
                    self.assert_never(board, claim)
                else:
                    self.assert_may(board, claim)

    def test_very_great_numbers(self):
        board = board_of(Board(2, 3, GREATEST, 0, 0), (0, 0, -GREATEST, -GREATEST))
        self.assert_may(board, [("at", 2, (GREATEST, None))])
        self.assert_never(board, [("at", 2, (GREATEST + 1, None))])
        self.assert_never(board, [("at", 2, (None, -GREATEST - 1))])


class ClaimsTest(AnswersTest):
    def test_five_hundred_parts(self):
        board = board_of(Board(2, 12, 1, 1, 1), (0, 0, 0, 0), (1, 11, 20, 20))
        claim = [("at", number % 12, (-number, None)) for number in range(500)]
        self.assert_may(board, claim)
        self.assert_never(board, claim[:-1] + [("at", 3, (10, 10))])

    def test_one_turn(self):
        board = board_of(Board(1, 1, 5, 5, 0), (0, 0, 1, 2))
        self.assert_may(board, [("at", 0, (2, 5))])
        self.assert_never(board, [("at", 0, (3, 5))])

    def test_an_eye_without_words_is_no_help(self):
        board = board_of(Board(3, 1, 0, 0, 1), (0, 0, 1, 1), (1, 0, 1, 1))
        self.assert_never(board, [("at", 0, (2, 2))])

    def test_no_claim(self):
        board = board_of(Board(2, 3, 2, 1, 1), (0, 0, 1, 1))
        for part in [
            ("at", -1, ALL), ("at", 3, ALL), ("step", 2, ALL), ("step", -1, ALL), ("step", 3, ALL), ("", 0, ALL),
            ("on", 0, (1, 1)), ("Step", 0, (1, 1)), ("at", GREAT, ALL),
        ]:
            impossible = [[], [("step", 0, (7, 7))], [("at", 0, (1, 1)), ("at", 0, (2, 2))], [("at", 0, (9, 9))]]
            for beside in impossible:
                for claim in ([part] + beside, beside + [part]):
                    with self.subTest(claim=claim), self.assertRaises(NoClaim):
                        ask(board, claim)

    def test_no_claim_where_no_course_fits(self):
        board = board_of(Board(2, 1, 0, 0, 0), (0, 0, 1, 1), (1, 0, 2, 2))
        self.assert_never(board, [])
        with self.assertRaises(NoClaim):
            ask(board, [("step", 0, ALL)])


class AllCoursesTest(AnswersTest):
    def test_against_every_course(self):
        # Ends are from -3 to 3 and courses move by at most 4 in all: whoever begins beyond 8 is beyond all ends.
        draws = Draws(30)
        seen = {}
        for _ in range(700):
            board = some_board(draws, Board, eyes=4, turns=3, words=8)
            claim = some_claim(draws, board)
            if any(is_met(course, claim) for course in fitting(board, -8, 8)):
                self.assert_may(board, claim)
                form = "may"
            else:
                form = self.assert_never(board, claim)[0]
            seen[form] = seen.get(form, 0) + 1
        self.assertEqual(sorted(seen), ["at", "clash", "may", "step"])
        self.assertGreater(min(seen.values()), 20, seen)

    def test_paper_or_course_on_greater_boards(self):
        draws = Draws(31)
        seen = {"may": 0, "never": 0}
        for _ in range(200):
            board = some_board(draws, Board, eyes=7, turns=12, words=40, ends=9)
            claim = some_claim(draws, board, parts=2, ends=9)
            form = ask(board, claim)[0]
            seen[form] += 1
            if form == "may":
                self.assert_may(board, claim)
            else:
                self.assert_never(board, claim)
        self.assertGreater(min(seen.values()), 30, seen)


class RefutesTest(unittest.TestCase):
    """The walk itself must find what is wrong with a paper, else the other tests say little."""

    def test_wrong_papers(self):
        board = board_of(Board(3, 2, 1, 1, 1), (0, 0, 1, 1), (1, 0, 2, 2), (2, 0, 3, 3))
        paper = ask(board, [])[1]
        self.assertTrue(refutes(board, [], paper))
        self.assertFalse(refutes(board.allowing(2), [], paper))
        self.assertFalse(refutes(board.keeping([(0, 0), (1, 0)]), [], paper))
        self.assertFalse(refutes(board, [], ("full",)))
        self.assertFalse(refutes(board, [], ("step", 0)))
        self.assertFalse(refutes(board, [], ("at", 0)))
        for number in (3, 4):
            for part in (None, ("full",), ("at", 1)):
                self.assertFalse(refutes(board, [], paper[:number] + (part,) + paper[number + 1:]))
        self.assertFalse(refutes(board, [], ("clash", paper[2], paper[1], paper[3], paper[4])))

    def test_paces_and_wanted_by_hand(self):
        board = Board(1, 2, 1, 1, 0)
        self.assertEqual(paces_by_hand(board, [("step", 0, (2, 2))]), [None])
        self.assertEqual(wanted_by_hand(board, [("at", 0, (2, 2)), ("at", 0, (None, 1))]), [None, ALL])


class AskersOwnTest(unittest.TestCase):
    def test_what_is_handed_in_stays(self):
        words = [(0, 0, 1, 1), (1, 0, 2, 2)]
        board = board_of(Board(2, 2, 1, 1, 1), *words)
        claim = [("at", 0, (1, 1)), ("step", 0, (None, 0)), ("at", 0, ALL)]
        for most in range(3):
            ask(board.allowing(most), claim)
        ask(board, claim)
        self.assertEqual(claim, [("at", 0, (1, 1)), ("step", 0, (None, 0)), ("at", 0, ALL)])
        self.assertEqual(board.tellings(), [(eye, turn, (lo, hi)) for eye, turn, lo, hi in words])
        self.assertEqual(board.most, 1)

    def test_told_courses_are_the_askers(self):
        board = board_of(Board(1, 2, 0, 0, 0), (0, 0, 4, 4))
        ask(board, [])[1].clear()
        self.assertEqual(ask(board, []), ("may", [4, 4]))

    def test_what_was_told_stays(self):
        board, claim = board_of(Board(2, 1, 0, 0, 0), (0, 0, 4, 4)), []
        may = ask(board, claim)
        claim.append(("at", 0, (9, 9)))
        never = ask(board, claim)
        before = repr((may, never))
        board.tell(1, 0, 9, 9)
        board.hush(0, 0)
        claim.clear()
        ask(board, claim)
        self.assertEqual(repr((may, never)), before)


if __name__ == "__main__":
    unittest.main()
