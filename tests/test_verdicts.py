"""Points 31 to 34, and point 3 on events: verdicts, lying, reasons, windows; and what point 2 says of them."""

import itertools
import unittest

from gaze.boards import Board
from gaze.errors import NoAlarm, NoClaim, NoEvent, NoTelling
from gaze.events import Both, Either, Event, Nay, Over, Paced, Rose, Stayed, Turned, Under
from gaze.verdicts import lying, reason, verdict, windows
from tests.helper import (
    GREAT, GREATEST, Draws, board_of, fitting, is_fit, is_met, lying_eyes, refutes, some_board, some_stretch,
)

ALL = (None, None)


def some_event(draws, turns, depth=2):
    """A mixed event that speaks of no turn from turns on."""
    form = draws.number(0, 8) if depth else draws.number(0, 5)
    first, last = sorted(draws.numbers(2, 0, turns - 1))
    one, number = some_stretch(draws, -3, 3), draws.number(-3, 3)
    if form == 0:
        return Stayed(first, last, one)
    if form == 1:
        return Over(first, last, number)
    if form == 2:
        return Under(first, last, number)
    if form == 3:
        return Rose(first, last, number, number + draws.number(1, 3))
    if form == 4:
        return Paced(first, last, one)
    if form == 5:
        return Turned(draws.number(1, turns - 2)) if turns > 2 else Over(first, last, number)
    event = some_event(draws, turns, depth - 1)
    if form == 6:
        return Nay(event)
    other = some_event(draws, turns, depth - 1)
    return Both(event, other) if form == 7 else Either(event, other)


class VerdictsTest(unittest.TestCase):
    def assert_verdict(self, board, event, word):
        told = verdict(board, event)
        self.assertIs(type(told), tuple)
        self.assertEqual(told[0], word, (board.tellings(), told))
        if word == "none":
            self.assertEqual(len(told), 2)
            self.assertTrue(refutes(board, [], told[1]), told)
        elif word == "open":
            self.assertEqual(len(told), 3)
            self.assertTrue(is_fit(board, told[1]) and is_fit(board, told[2]), told)
            self.assertTrue(any(is_met(told[1], claim) for claim in event.ways()), told)
            self.assertTrue(any(is_met(told[2], claim) for claim in event.breaks()), told)
        else:
            self.assertEqual(len(told), 2)
            self.assert_papers(board, told[1], event.breaks() if word == "yes" else event.ways())

    def assert_papers(self, board, papers, claims):
        self.assertIs(type(papers), list)
        self.assertEqual(len(papers), len(claims))
        for paper, claim in zip(papers, claims):
            self.assertTrue(refutes(board, claim, paper), (board.tellings(), claim, paper))


class VerdictTest(VerdictsTest):
    def test_none(self):
        board = board_of(Board(2, 2, 1, 1, 0), (0, 0, 1, 1), (1, 0, 2, 2))
        for event in [Over(0, 1, 0), Stayed(0, 1, ALL), Nay(Stayed(0, 1, ALL)), Rose(0, 0, 1, 2)]:
            self.assert_verdict(board, event, "none")
        self.assert_verdict(board.allowing(1), Over(0, 1, 1), "yes")

    def test_yes_no_open(self):
        board = board_of(Board(3, 3, 2, 1, 1), (0, 0, 4, 5), (1, 0, 4, 5), (2, 0, 9, 9))
        self.assert_verdict(board, Over(0, 0, 4), "yes")
        self.assert_verdict(board, Over(0, 0, 5), "open")
        self.assert_verdict(board, Over(0, 0, 6), "no")
        self.assert_verdict(board, Over(0, 2, 9), "open")
        self.assert_verdict(board, Over(0, 2, 10), "no")
        self.assert_verdict(board, Stayed(0, 2, (2, 9)), "yes")
        self.assert_verdict(board, Stayed(0, 2, (3, 9)), "open")
        self.assert_verdict(board, Nay(Over(0, 0, 6)), "yes")
        self.assert_verdict(board, Nay(Over(0, 0, 4)), "no")
        self.assert_verdict(board, Both(Over(0, 0, 4), Under(0, 0, 5)), "yes")
        self.assert_verdict(board, Either(Over(0, 0, 6), Under(0, 0, 3)), "no")

    def test_what_neither_part_has_alone(self):
        board = board_of(Board(1, 1, 0, 0, 0), (0, 0, 1, 2))
        self.assert_verdict(board, Under(0, 0, 1), "open")
        self.assert_verdict(board, Over(0, 0, 2), "open")
        self.assert_verdict(board, Either(Under(0, 0, 1), Over(0, 0, 2)), "yes")
        self.assert_verdict(board, Both(Under(0, 0, 1), Over(0, 0, 2)), "no")

    def test_no_breaks_and_no_ways(self):
        board = board_of(Board(1, 2, 0, 0, 0), (0, 0, 1, 2))
        self.assertEqual(verdict(board, Stayed(0, 1, ALL)), ("yes", []))
        self.assertEqual(verdict(board, Nay(Stayed(0, 1, ALL))), ("no", []))
        self.assertEqual(verdict(board, Paced(0, 0, (1, 1))), ("yes", []))
        self.assertEqual(verdict(board, Rose(1, 1, 0, 1)), ("no", []))

    def test_paces_of_the_board_alone(self):
        board = Board(2, 3, 2, 1, 2)
        self.assert_verdict(board, Paced(0, 2, (-1, 2)), "yes")
        self.assert_verdict(board, Paced(0, 2, (0, 2)), "open")
        self.assert_verdict(board, Paced(0, 2, (3, None)), "no")
        self.assert_verdict(board, Turned(1), "open")
        self.assert_verdict(Board(2, 3, 0, 1, 2), Turned(1), "no")
        self.assert_verdict(Board(2, 3, 1, 0, 0), Turned(1), "no")

    def test_turned(self):
        board = board_of(Board(1, 3, 1, 1, 0), (0, 0, 0, 0), (0, 1, 1, 1), (0, 2, 0, 0))
        self.assert_verdict(board, Turned(1), "yes")
        board.tell(0, 2, 0, 1)
        self.assert_verdict(board, Turned(1), "open")
        board.tell(0, 2, 1, 1)
        self.assert_verdict(board, Turned(1), "no")

    def test_speaks_just_as_far_and_one_turn_farther(self):
        good = board_of(Board(2, 3, 1, 1, 0), (0, 0, 1, 1))
        none = board_of(Board(2, 3, 1, 1, 0), (0, 0, 1, 1), (1, 0, 2, 2))
        for board in (good, none):
            for event in [Over(0, 2, 5), Turned(1), Stayed(2, 2, ALL), Both(Over(0, 0, 1), Under(2, 2, 5))]:
                self.assertIn(verdict(board, event)[0], ("none", "yes", "no", "open"))
            for event in [
                Over(0, 3, 5), Turned(2), Stayed(3, 3, ALL), Rose(0, 11, 1, 2), Nay(Stayed(3, 3, ALL)),
                Both(Over(0, 0, 1), Under(3, 3, 5)), Either(Under(0, 3, 1), Over(0, 0, 5)), Paced(3, 3, (1, 1)),
            ]:
                with self.subTest(event=event), self.assertRaises(NoClaim):
                    verdict(board, event)
        self.assertEqual(verdict(Board(1, 12, 1, 1, 0), Rose(0, 11, 1, 2))[0], "open")

    def test_very_great_numbers(self):
        board = board_of(Board(1, 2, GREATEST, 0, 0), (0, 0, -GREATEST, -GREATEST))
        self.assert_verdict(board, Over(0, 1, 1), "no")
        self.assert_verdict(board, Over(0, 1, 0), "open")
        self.assert_verdict(board, Over(0, 1, -GREATEST), "yes")

    def test_a_hundred_breaks(self):
        board = board_of(Board(3, 12, 1, 1, 1), (0, 5, 50, 50), (1, 5, 50, 50), (2, 5, 0, 0))
        event = Either(Nay(Over(0, 9, 57)), Nay(Under(0, 9, 43)))
        self.assertEqual(event.sizes(), (2, 100))
        self.assert_verdict(board, event, "yes")
        self.assert_verdict(board, Nay(event), "no")

    def test_against_every_course(self):
        # Ends are from -3 to 3, sills up to 6 and courses move by at most 4 in all: beyond 11 all is alike.
        draws = Draws(37)
        seen = {}
        for _ in range(400):
            board = some_board(draws, Board, eyes=4, words=draws.one_of([4, 8, 12]), moves=draws.number(0, 2))
            event = some_event(draws, board.turns)
            truths = {event.held(course) for course in fitting(board, -12, 12)}
            word = "none" if not truths else "open" if len(truths) == 2 else "yes" if True in truths else "no"
            self.assert_verdict(board, event, word)
            seen[word] = seen.get(word, 0) + 1
        self.assertEqual(sorted(seen), ["no", "none", "open", "yes"])
        self.assertGreater(min(seen.values()), 25, seen)


class LyingTest(VerdictsTest):
    def test_no_words(self):
        board = Board(3, 4, 1, 1, 1)
        event = lying(board, 2)
        self.assertIsInstance(event, Event)
        self.assertEqual((event.far(), event.sizes()), (0, (0, 1)))
        self.assertEqual((event.ways(), event.breaks()), ([], [[]]))
        self.assertIs(event.held([5]), False)
        self.assertEqual(verdict(board, event), ("no", []))

    def test_words(self):
        board = board_of(Board(3, 5, 9, 9, 1), (1, 0, 2, 4), (1, 2, None, 3), (1, 3, 5, None), (0, 4, 1, 1))
        event = lying(board, 1)
        self.assertEqual((event.far(), event.sizes()), (3, (4, 1)))
        self.assertEqual((len(event.ways()), len(event.breaks())), (4, 1))
        self.assertIs(event.held([2, 9, 3, 5]), False)
        self.assertIs(event.held([1, 9, 3, 5]), True)
        self.assertIs(event.held([5, 9, 3, 5]), True)
        self.assertIs(event.held([4, 9, 4, 5]), True)
        self.assertIs(event.held([4, 9, 3, 4]), True)
        self.assertIs(event.held([4, 9, -GREAT, GREAT]), False)

    def test_words_without_ends(self):
        board = board_of(Board(1, 3, 1, 1, 1), (0, 1, None, None))
        event = lying(board, 0)
        self.assertEqual((event.far(), event.sizes()), (1, (0, 1)))
        self.assertEqual(verdict(board, event), ("no", []))

    def test_surely_wrong_surely_right_and_open(self):
        board = board_of(Board(3, 1, 0, 0, 1), (0, 0, 4, 5), (1, 0, 4, 5), (2, 0, 9, 9))
        self.assert_verdict(board, lying(board, 0), "no")
        self.assert_verdict(board, lying(board, 1), "no")
        self.assert_verdict(board, lying(board, 2), "yes")
        self.assert_verdict(board.allowing(2), lying(board, 0), "open")
        self.assert_verdict(board.allowing(0), lying(board, 0), "none")

    def test_an_eye_that_quarrels_with_itself(self):
        board = board_of(Board(2, 2, 1, 1, 1), (0, 0, 0, 0), (0, 1, 2, 2))
        self.assert_verdict(board, lying(board, 0), "yes")
        self.assert_verdict(board, lying(board, 1), "no")

    def test_an_eye_that_the_board_has_not(self):
        board = board_of(Board(3, 2, 1, 1, 1), (0, 0, 0, 0))
        for eye in [-1, 3, 4, -3, 7, GREAT, -GREAT]:
            with self.subTest(eye=eye), self.assertRaises(NoTelling):
                lying(board, eye)

    def test_events_made_of_it(self):
        board = board_of(Board(3, 2, 0, 0, 1), (0, 0, 4, 5), (1, 1, 7, 8), (2, 0, 4, 7))
        one, other = lying(board, 0), lying(board, 1)
        self.assert_verdict(board, one, "open")
        self.assert_verdict(board, Either(one, other), "yes")
        self.assert_verdict(board, Both(one, other), "no")
        self.assert_verdict(board, Nay(Both(one, other)), "yes")
        self.assert_verdict(board, Either(one, Over(0, 1, 4)), "yes")
        self.assertEqual(Either(one, other).far(), 1)
        self.assertEqual(Either(one, other).sizes(), (4, 1))
        self.assertEqual(Both(one, other).sizes(), (4, 2))

    def test_by_the_words_that_stood_then(self):
        board = board_of(Board(2, 3, 1, 1, 0), (0, 1, 4, 5))
        event = lying(board, 0)
        ways = event.ways()
        board.tell(0, 1, 0, 0)
        board.tell(0, 2, 0, 0)
        self.assertEqual((event.far(), event.sizes(), event.ways()), (1, (2, 1), ways))
        self.assertIs(event.held([4, 4]), False)
        self.assertIs(event.held([0, 0]), True)
        self.assert_verdict(board, event, "yes")
        self.assert_verdict(board, lying(board, 0), "no")

    def test_of_a_farther_board(self):
        event = lying(board_of(Board(2, 3, 1, 1, 0), (0, 2, 4, 5)), 0)
        with self.assertRaises(NoClaim):
            verdict(Board(2, 2, 1, 1, 0), event)
        self.assertEqual(verdict(Board(1, 3, 1, 1, 0), event)[0], "open")

    def test_against_every_course(self):
        draws = Draws(38)
        seen = {}
        for _ in range(150):
            board = some_board(draws, Board, eyes=4, words=10, moves=draws.number(0, 2))
            eye = draws.number(0, board.eyes - 1)
            event = lying(board, eye)
            courses = fitting(board, -12, 12)
            for course in courses:
                self.assertIs(event.held(course), eye in lying_eyes(board, course))
            truths = {eye in lying_eyes(board, course) for course in courses}
            word = "none" if not truths else "open" if len(truths) == 2 else "yes" if True in truths else "no"
            self.assert_verdict(board, event, word)
            words = [word for teller, turn, word in board.tellings() if teller == eye]
            self.assertEqual(event.sizes(), (sum(2 - word.count(None) for word in words), 1))
            seen[word] = seen.get(word, 0) + 1
        self.assertEqual(len(seen), 4, seen)


class ReasonTest(VerdictsTest):
    def assert_reason(self, board, event):
        told = reason(board, event)
        self.assertIs(type(told), list)
        self.assertTrue(all(type(spot) is tuple and len(spot) == 2 for spot in told))
        spots = [(eye, turn) for eye, turn, word in board.tellings()]
        self.assertEqual(told, [spot for spot in spots if spot in told])
        self.assertEqual(verdict(board.keeping(told), event)[0], "yes")
        for spot in told:
            fewer = [other for other in told if other != spot]
            self.assertNotEqual(verdict(board.keeping(fewer), event)[0], "yes", (told, spot))
        return told

    def test_one_word(self):
        board = board_of(Board(2, 3, 1, 1, 0), (0, 0, 4, 5), (1, 2, 0, 100))
        self.assertEqual(self.assert_reason(board, Over(0, 0, 4)), [(0, 0)])
        self.assertEqual(len(self.assert_reason(board, Over(0, 2, 0))), 1)

    def test_no_word_is_needed(self):
        board = board_of(Board(2, 3, 1, 1, 0), (0, 0, 4, 5))
        self.assertEqual(reason(board, Paced(0, 2, (-1, 1))), [])
        self.assertEqual(reason(board, Stayed(0, 2, ALL)), [])
        self.assertEqual(reason(Board(2, 3, 1, 1, 0), Paced(0, 2, (-1, 1))), [])

    def test_more_than_one_may_lie(self):
        words = [(eye, 0, 5, 6) for eye in range(5)]
        for most in range(5):
            board = board_of(Board(5, 1, 0, 0, most), *words)
            self.assertEqual(len(self.assert_reason(board, Over(0, 0, 5))), most + 1)

    def test_rose(self):
        board = board_of(Board(2, 4, 3, 3, 0), (1, 3, 9, 9), (0, 1, 4, 5), (0, 0, 1, 2), (1, 2, 0, 99))
        self.assertEqual(self.assert_reason(board, Rose(0, 3, 2, 9)), [(0, 0), (1, 3)])

    def test_of_lying(self):
        board = board_of(Board(3, 1, 0, 0, 1), (0, 0, 4, 5), (1, 0, 4, 5), (2, 0, 9, 9))
        self.assertEqual(self.assert_reason(board, lying(board, 2)), [(0, 0), (1, 0)])

    def test_no_alarm(self):
        board = board_of(Board(2, 2, 1, 1, 0), (0, 0, 4, 5))
        none = board_of(Board(2, 2, 1, 1, 0), (0, 0, 1, 1), (1, 0, 2, 2))
        for asked, event in [
            (board, Over(0, 0, 5)), (board, Over(0, 0, 6)), (none, Over(0, 0, 1)), (none, Stayed(0, 1, ALL)),
            (none, Nay(Stayed(0, 1, ALL))), (Board(1, 1, 0, 0, 0), Over(0, 0, 0)),
        ]:
            with self.subTest(event=event), self.assertRaises(NoAlarm):
                reason(asked, event)

    def test_no_claim_ahead_of_no_alarm(self):
        board = board_of(Board(2, 2, 1, 1, 0), (0, 0, 4, 5))
        none = board_of(Board(2, 2, 1, 1, 0), (0, 0, 1, 1), (1, 0, 2, 2))
        for asked in (board, none):
            for event in [Over(0, 2, 9), Turned(1), Stayed(2, 2, ALL), Nay(Stayed(2, 2, ALL))]:
                with self.subTest(event=event), self.assertRaises(NoClaim):
                    reason(asked, event)

    def test_mixed(self):
        draws = Draws(39)
        lengths = {}
        for _ in range(700):
            board = some_board(draws, Board, eyes=5, turns=4, words=14, ends=4, moves=draws.number(0, 2))
            event = some_event(draws, board.turns)
            if verdict(board, event)[0] == "yes":
                length = len(self.assert_reason(board, event))
                lengths[length] = lengths.get(length, 0) + 1
            else:
                with self.assertRaises(NoAlarm):
                    reason(board, event)
        self.assertGreater(len(lengths), 3, lengths)
        self.assertGreater(sum(lengths.values()), 60, lengths)


class WindowsTest(unittest.TestCase):
    def windows_by_hand(self, board, low, high):
        pairs = list(itertools.combinations(range(board.turns), 2))
        sure = [pair for pair in pairs if verdict(board, Rose(pair[0], pair[1], low, high))[0] == "yes"]
        return [
            pair for pair in sure
            if not any(pair[0] <= other[0] and other[1] <= pair[1] for other in sure if other != pair)
        ]

    def test_one_window(self):
        board = board_of(Board(1, 4, 9, 9, 0), (0, 1, 0, 2), (0, 3, 7, 9))
        self.assertEqual(windows(board, 2, 7), [(1, 3)])
        self.assertEqual(windows(board, 1, 7), [])
        self.assertEqual(windows(board, 2, 8), [])

    def test_several(self):
        numbers = [0, 9, 5, 0, 5, 9, 0, 9]
        board = board_of(Board(1, 8, 9, 9, 0), *[(0, turn, n, n) for turn, n in enumerate(numbers)])
        told = windows(board, 0, 9)
        self.assertEqual(told, [(0, 1), (3, 5), (6, 7)])
        self.assertTrue(all(type(pair) is tuple for pair in told))
        self.assertEqual(windows(board, 5, 9), [(0, 1), (4, 5), (6, 7)])

    def test_within_one_another(self):
        board = board_of(Board(1, 6, 9, 9, 0), (0, 0, 0, 0), (0, 3, 9, 9), (0, 2, 0, 3), (0, 5, 9, 9))
        self.assertEqual(windows(board, 0, 9), [(0, 3)])
        self.assertEqual(windows(board, 3, 9), [(2, 3)])

    def test_windows_that_overlap(self):
        # One of the two is right: eye 0, with rises from 0 to 1 and from 2 to 3, or eye 1, with one from 1 to 2.
        rises = [(0, 0, 0, 0), (0, 1, 9, 9), (0, 2, 0, 0), (0, 3, 9, 9), (1, 1, 0, 0), (1, 2, 9, 9)]
        self.assertEqual(windows(board_of(Board(2, 4, 9, 9, 1), *rises), 0, 9), [(0, 2), (1, 3)])

    def test_one_of_two_rises(self):
        board = board_of(Board(2, 4, 9, 9, 1), (0, 0, 0, 0), (0, 1, 9, 9), (1, 2, 0, 0), (1, 3, 9, 9))
        self.assertEqual(windows(board, 0, 9), [(0, 3)])
        self.assertEqual(windows(board.allowing(0), 0, 9), [(0, 1), (2, 3)])

    def test_a_rise_between_turns_that_are_not_known(self):
        # By its pace it is at 3 or less at turn 1, and at 6 or more at turn 2.
        board = board_of(Board(2, 4, 3, 3, 0), (0, 0, 0, 0), (1, 3, 9, 9))
        self.assertEqual(windows(board, 0, 9), [(0, 3)])
        self.assertEqual(windows(board, 3, 6), [(1, 2)])

    def test_no_course_fits(self):
        board = board_of(Board(2, 3, 9, 9, 0), (0, 0, 0, 0), (0, 2, 9, 9))
        self.assertEqual(windows(board, 0, 9), [(0, 2)])
        board.tell(1, 0, 5, 5)
        self.assertEqual(windows(board, 0, 9), [])

    def test_no_word_and_one_turn(self):
        self.assertEqual(windows(Board(2, 12, 9, 9, 0), 0, 1), [])
        self.assertEqual(windows(Board(2, 1, 9, 9, 0), 0, 1), [])

    def test_low_not_less_than_high(self):
        none = board_of(Board(2, 2, 1, 1, 0), (0, 0, 1, 1), (1, 0, 2, 2))
        for board in (Board(2, 4, 1, 1, 0), Board(2, 1, 1, 1, 0), none):
            for low, high in [(1, 1), (2, 1), (GREATEST, -GREATEST), (0, 0)]:
                with self.subTest(low=low, high=high), self.assertRaises(NoEvent):
                    windows(board, low, high)
            self.assertEqual(windows(board, 1, 2), [])

    def test_very_great(self):
        board = board_of(Board(1, 3, 3 * GREATEST, 0, 0), (0, 0, -GREATEST, -GREATEST), (0, 2, GREATEST, None))
        self.assertEqual(windows(board, -GREATEST, GREATEST), [(0, 2)])

    def test_mixed(self):
        draws = Draws(40)
        lengths = {}
        for _ in range(60):
            board = Board(3, 7, 4, 4, draws.number(0, 1))
            for _ in range(draws.number(9, 21)):
                turn, eye = draws.number(0, 6), draws.number(0, 2)
                number = 4 * (turn % 2) + draws.number(0, 2)
                board.tell(eye, turn, number, number + draws.number(0, 1))
            told = windows(board, 2, 4)
            self.assertEqual(told, self.windows_by_hand(board, 2, 4))
            self.assertEqual(told, sorted(told))
            lasts = [last for first, last in told]
            self.assertEqual(lasts, sorted(set(lasts)))
            lengths[len(told)] = lengths.get(len(told), 0) + 1
        self.assertGreater(len(lengths), 2, lengths)


class AskersOwnTest(unittest.TestCase):
    def board(self):
        return board_of(Board(3, 2, 1, 1, 1), (0, 0, 4, 5), (1, 0, 4, 5), (2, 1, 9, 9))

    def test_what_is_handed_in_stays(self):
        board, event = self.board(), Either(Over(0, 1, 4), Under(0, 0, -7))
        before = repr((event.ways(), event.breaks()))
        verdict(board, event)
        reason(board, event)
        windows(board, 1, 4)
        lying(board, 2)
        with self.assertRaises(NoAlarm):
            reason(board, Nay(event))
        self.assertEqual(board.tellings(), self.board().tellings())
        self.assertEqual(board.most, 1)
        self.assertEqual(repr((event.ways(), event.breaks())), before)

    def test_told_lists_are_the_askers(self):
        board, event = self.board(), Over(0, 0, 4)
        verdict(board, event)[1].clear()
        reason(board, event).clear()
        verdict(board, Over(0, 1, 6))[1].append(7)
        words = lying(board, 2)
        words.ways().clear()
        words.breaks()[0].clear()
        self.assertEqual(len(verdict(board, event)[1]), 1)
        self.assertEqual(len(reason(board, event)), 2)
        self.assertEqual((len(words.ways()), words.breaks()), (2, [[("at", 1, (9, 9))]]))

    def test_what_was_told_stays(self):
        board, event = self.board(), Over(0, 0, 4)
        told = (verdict(board, event), verdict(board, Over(0, 1, 5)), reason(board, event), windows(board, 1, 4))
        before = repr(told)
        board.tell(0, 0, -5, -5)
        board.hush(2, 1)
        verdict(board, event)
        self.assertEqual(repr(told), before)


if __name__ == "__main__":
    unittest.main()
