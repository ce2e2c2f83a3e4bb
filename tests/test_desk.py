"""Point 39 and the interface's rows: a desk; and what point 2 says of it."""

import unittest

from gaze.boards import Board
from gaze.desk import Desk
from gaze.drawings import drawing
from gaze.errors import (
    GazeError, NoAlarm, NoBoard, NoClaim, NoEvent, NoName, NoRow, NoRule, NoStretch, NoTelling, TooMany,
)
from gaze.places import strips
from gaze.rules import read
from gaze.verdicts import lying, reason, verdict
from tests.helper import Draws, some_board

SIXTY = "9" * 60
# Numbers that are none, for the places where a whole number stands.
NO_NUMBERS = ["", "-0", "+1", "007", "00", "-", "1.0", "x", "--1", "9" * 61, "-" + "9" * 61, "1_0", "#", "1\n", "\t1"]
# A row of each form; in each, * stands where an end may be open.
ROWS = [
    "board 3 3 2 1 1", "tell 0 0 4 5", "hush 0 1", "drop high", "strip 0", "ask high", "why high", "false 0",
    "draw 0 5",
]


def answers(desk, *rows):
    return [desk.say(row) for row in rows]


def told_desk():
    desk = Desk()
    answers(
        desk, "board 3 3 2 1 1", "tell 0 0 4 5", "tell 1 0 4 5", "tell 2 0 9 9", "tell 0 1 * 7",
        "rule high over 0 0 4", "rule higher over 0 0 5", "rule never under 0 0 -9", "rule far over 0 11 4",
    )
    return desk


def all_that_stands(desk):
    """What can be asked of a told desk, as one text."""
    said = []
    for row in [
        "strip 0", "strip 1", "strip 2", "ask high", "ask higher", "ask never", "ask far", "ask new", "why high",
        "false 0", "false 1", "false 2", "draw -1 12", "strip 3", "false 3", "ask a", "why abcdefgh",
    ]:
        try:
            said.append(desk.say(row))
        except GazeError as refusal:
            said.append(type(refusal).__name__)
    return "; ".join(said)


class DesksTest(unittest.TestCase):
    def assert_refused(self, refusal, desk, *rows):
        for row in rows:
            with self.subTest(row=row), self.assertRaises(refusal):
                desk.say(row)

    def assert_nothing_changed(self, refusal, make, *rows):
        """Each row is refused on a desk by make, and changes nothing."""
        for row in rows:
            desk = make()
            before = all_that_stands(desk)
            self.assert_refused(refusal, desk, row)
            self.assertEqual(all_that_stands(desk), before, row)


class BoardRowsTest(DesksTest):
    def test_board(self):
        desk = Desk()
        self.assertEqual(desk.say("board 3 3 2 1 1"), "ok")
        self.assertEqual(desk.say("strip 2"), "* *")
        for row in ["board 1 1 0 0 0", "board 7 12 5 0 7", f"board 1 2 {SIXTY} {SIXTY} 1"]:
            self.assertEqual(desk.say(row), "ok")

    def test_no_board_of_such_numbers(self):
        rows = [
            "board 0 3 2 1 0", "board 8 3 2 1 1", "board 3 0 2 1 1", "board 3 13 2 1 1", "board 3 3 -1 1 1",
            "board 3 3 2 -1 1", "board 3 3 2 1 -1", "board 3 3 2 1 4", f"board {SIXTY} 1 1 1 1",
        ]
        self.assert_nothing_changed(NoBoard, told_desk, *rows)
        self.assert_nothing_changed(NoBoard, Desk, *rows)

    def test_a_new_board_has_no_word_and_the_rules_stay(self):
        desk = told_desk()
        self.assertEqual(desk.say("ask high"), "yes")
        self.assertEqual(desk.say("board 3 3 2 1 1"), "ok")
        self.assertEqual([desk.say(f"strip {turn}") for turn in range(3)], ["* *"] * 3)
        self.assertEqual(desk.say("ask high"), "open")
        self.assert_refused(NoTelling, desk, "hush 0 0")

    def test_the_order_of_the_five_numbers(self):
        desk = Desk()
        answers(desk, "board 2 3 5 7 0", "tell 1 0 100 100")
        self.assertEqual(desk.say("strip 2"), "86 110")
        self.assert_refused(NoTelling, desk, "tell 2 0 1 1", "tell 0 3 1 1")
        answers(desk, "board 2 3 5 7 1", "tell 1 0 100 100")
        self.assertEqual(desk.say("strip 0"), "* *")

    def test_tell_and_hush(self):
        desk = Desk()
        self.assertEqual(answers(desk, "board 1 2 1 1 0", "tell 0 0 4 5"), ["ok", "ok"])
        self.assertEqual(desk.say("strip 0"), "4 5")
        self.assertEqual(desk.say("strip 1"), "3 6")
        self.assertEqual(answers(desk, "tell 0 0 -7 *", "strip 0"), ["ok", "-7 *"])
        self.assertEqual(answers(desk, "tell 0 0 * 3", "strip 0"), ["ok", "* 3"])
        self.assertEqual(answers(desk, "tell 0 0 * *", "strip 0"), ["ok", "* *"])
        self.assertEqual(answers(desk, "tell 0 1 0 0", "strip 0"), ["ok", "-1 1"])
        self.assertEqual(answers(desk, "hush 0 1", "strip 0"), ["ok", "* *"])
        self.assertEqual(answers(desk, f"tell 0 0 -{SIXTY} {SIXTY}", "strip 0"), ["ok", f"-{SIXTY} {SIXTY}"])

    def test_no_telling(self):
        self.assert_nothing_changed(
            NoTelling, told_desk, "tell 3 0 1 2", "tell -1 0 1 2", "tell 0 3 1 2", "tell 0 -1 1 2", "tell 0 0 2 1",
            "tell 0 0 5 -5", "hush 0 2", "hush 1 1", "hush 3 0", "hush 0 3", "hush -1 0", f"tell {SIXTY} 0 1 2",
        )


class RuleRowsTest(DesksTest):
    def test_rule_and_drop(self):
        desk = Desk()
        self.assertEqual(answers(desk, "rule high over 0 0 4", "drop high"), ["ok", "ok"])
        self.assert_refused(NoName, desk, "drop high")
        self.assertEqual(answers(desk, "rule high over 0 0 4", "board 1 1 0 0 0"), ["ok", "ok"])
        self.assertEqual(desk.say("ask high"), "open")
        self.assertEqual(answers(desk, "tell 0 0 4 4", "ask high", "drop high"), ["ok", "yes", "ok"])
        self.assert_refused(NoName, desk, "ask high", "why high", "drop high")

    def test_in_the_place_of_one_that_stood(self):
        desk = told_desk()
        self.assertEqual(answers(desk, "ask high", "rule high over 0 0 6", "ask high"), ["yes", "ok", "no"])

    def test_several(self):
        desk = told_desk()
        self.assertEqual(answers(desk, "drop higher", "ask high", "ask never"), ["ok", "yes", "no"])

    def test_rules_of_many_words(self):
        desk = told_desk()
        desk.say("rule deep both not over 0 0 6 either stay 0 0 4 * turn 1")
        self.assertEqual(desk.say("ask deep"), "yes")
        self.assertEqual(desk.say("rule long " + "not " * 58 + "turn 1"), "ok")
        self.assertEqual(desk.say("ask long"), "open")

    def test_names(self):
        desk = told_desk()
        for name in ["a", "z", "abcdefgh", "qrstuvwx", "rule", "ask", "board", "over"]:
            rows = [f"rule {name} over 0 0 4", f"ask {name}", f"drop {name}"]
            self.assertEqual(answers(desk, *rows), ["ok", "yes", "ok"])
        for name in [
            "abcdefghi", "", "A", "aB", "a1", "1", "a-b", "a_b", "*", "a.", "-", "over!", "z" * 60, "#", "{", "`", "@",
        ]:
            self.assert_nothing_changed(
                NoName, told_desk, f"rule {name} over 0 0 4", f"drop {name}", f"ask {name}", f"why {name}",
            )

    def test_unknown_names(self):
        self.assert_nothing_changed(NoName, told_desk, "drop new", "ask new", "why new", "ask hig", "why highe")

    def test_no_rule(self):
        self.assert_nothing_changed(
            NoRule, told_desk, "rule new ", "rule high ", "rule new  ", "rule new   ", "rule new x", "rule high turn",
            "rule new turn 1 ", "rule new  turn 1", "rule new turn  1", "rule new turn 01", "rule new turn *",
            "rule new turn 1 2", "rule new both turn 0 x", "rule high " + "not " * 59 + "turn 1",
        )

    def test_a_rule_whose_text_is_empty(self):
        self.assert_nothing_changed(NoRule, Desk, "rule new ")
        self.assert_nothing_changed(NoRow, Desk, "rule new", "rule", "rulenew ")
        self.assert_nothing_changed(NoName, Desk, "rule  ", "rule   ", "rule NEW ", "rule  over 0 0 4")
        self.assert_nothing_changed(NoRow, Desk, "rule ")

    def test_no_event_and_too_many(self):
        self.assert_nothing_changed(
            NoEvent, told_desk, "rule high turn 0", "rule new stay 0 0 2 1", "rule high over 3 2 1",
        )
        self.assert_nothing_changed(TooMany, told_desk, "rule high both over 0 9 5 over 0 10 5")


class QuestionsTest(DesksTest):
    def test_strip(self):
        desk = told_desk()
        self.assertEqual(answers(desk, "strip 0", "strip 1", "strip 2"), ["4 5", "3 7", "2 9"])
        answers(desk, "board 2 1 0 0 0", "tell 0 0 1 1", "tell 1 0 2 2")
        self.assertEqual(desk.say("strip 0"), "none")

    def test_strip_over_places_that_lie_apart(self):
        desk = Desk()
        answers(desk, "board 2 1 0 0 1", "tell 0 0 1 1", "tell 1 0 7 8")
        self.assertEqual(desk.say("strip 0"), "1 8")
        desk.say("tell 0 0 * 1")
        self.assertEqual(desk.say("strip 0"), "* 8")

    def test_strip_of_a_turn_that_is_not_there(self):
        self.assert_nothing_changed(NoClaim, told_desk, "strip 3", "strip -1", f"strip {SIXTY}", f"strip -{SIXTY}")

    def test_ask(self):
        desk = told_desk()
        self.assertEqual(answers(desk, "ask high", "ask higher", "ask never"), ["yes", "open", "no"])
        answers(desk, "board 2 1 0 0 0", "tell 0 0 1 1", "tell 1 0 2 2")
        self.assertEqual(answers(desk, "ask high", "ask never"), ["none", "none"])

    def test_why(self):
        desk = told_desk()
        # Any two of the three eyes make it sure, for one of them is right.
        self.assertIn(desk.say("why high"), ("0.0 1.0", "0.0 2.0", "1.0 2.0"))
        desk.say("rule steps pace 0 2 -1 2")
        self.assertEqual(desk.say("why steps"), "")
        answers(desk, "board 7 12 1 1 0", "tell 6 11 20 20", "rule late over 11 11 4")
        self.assertEqual(desk.say("why late"), "6.11")

    def test_no_alarm(self):
        self.assert_nothing_changed(NoAlarm, told_desk, "why higher", "why never")
        desk = told_desk()
        answers(desk, "board 2 1 0 0 0", "tell 0 0 1 1", "tell 1 0 2 2")
        self.assert_refused(NoAlarm, desk, "why high")

    def test_an_event_that_speaks_farther(self):
        self.assert_nothing_changed(NoClaim, told_desk, "ask far", "why far")

    def test_false(self):
        desk = told_desk()
        self.assertEqual(answers(desk, "false 0", "false 1", "false 2"), ["no", "no", "yes"])
        desk.say("board 2 1 0 0 1")
        self.assertEqual(desk.say("false 0"), "no")
        answers(desk, "tell 0 0 1 1", "tell 1 0 2 2")
        self.assertEqual(desk.say("false 0"), "open")
        answers(desk, "board 2 1 0 0 0", "tell 0 0 1 1", "tell 1 0 2 2")
        self.assertEqual(desk.say("false 0"), "none")

    def test_false_of_an_eye_that_is_not_there(self):
        self.assert_nothing_changed(NoTelling, told_desk, "false 3", "false -1", f"false {SIXTY}")

    def test_draw(self):
        desk = Desk()
        answers(desk, "board 2 2 1 1 1", "tell 0 0 1 1", "tell 1 0 7 8")
        self.assertEqual(desk.say("draw -1 10"), "  0 ..#.....##..\n  1 .###...####.")
        self.assertEqual(desk.say("draw 7 7"), "  0 #\n  1 #")
        desk.say("board 1 1 0 0 0")
        self.assertEqual(desk.say("draw 0 2"), "  0 ###")
        self.assert_refused(NoStretch, desk, "draw 1 0", f"draw {SIXTY} -{SIXTY}")
        self.assert_nothing_changed(NoStretch, told_desk, "draw 1 0")

    def test_as_the_modules_answer(self):
        draws = Draws(44)
        rules = ["over 0 0 1", "under 0 0 1", "stay 0 0 -2 2", "not stay 0 0 -1 *", "rose 0 0 1 2"]
        for _ in range(40):
            board = some_board(draws, Board, eyes=4, turns=4, words=9)
            desk = Desk()
            numbers = (board.eyes, board.turns, board.up, board.down, board.most)
            desk.say("board " + " ".join(str(number) for number in numbers))
            for eye, turn, (lo, hi) in board.tellings():
                lo, hi = ["*" if end is None else end for end in (lo, hi)]
                self.assertEqual(desk.say(f"tell {eye} {turn} {lo} {hi}"), "ok")
            self.assertEqual(desk.say("draw -6 6"), "\n".join(drawing(board, -6, 6)))
            for turn, strip in enumerate(strips(board)):
                ends = "none" if strip is None else " ".join("*" if end is None else str(end) for end in strip)
                self.assertEqual(desk.say(f"strip {turn}"), ends)
            for eye in range(board.eyes):
                self.assertEqual(desk.say(f"false {eye}"), verdict(board, lying(board, eye))[0])
            for rule in rules:
                desk.say(f"rule it {rule}")
                told = verdict(board, read(rule))[0]
                self.assertEqual(desk.say("ask it"), told)
                if told == "yes":
                    spots = " ".join(f"{eye}.{turn}" for eye, turn in reason(board, read(rule)))
                    self.assertEqual(desk.say("why it"), spots)
                else:
                    self.assert_refused(NoAlarm, desk, "why it")


class NoRowTest(DesksTest):
    def test_no_text(self):
        for row in [None, 0, 1, True, [], ["strip", "0"], ("strip 0",), {}, b"strip 0"]:
            self.assert_nothing_changed(NoRow, told_desk, row)
            self.assert_refused(NoRow, Desk(), row)

    def test_no_row(self):
        rows = [
            "", " ", "  ", "x", "0", "*", "boards 3 3 2 1 1", "Board 3 3 2 1 1", "BOARD 3 3 2 1 1", "strips 0", "say",
            "ok", "over 0 0 4", "rules high over 0 0 4", "Rule high over 0 0 4", "#", "strip0", "strip,0", "strip\t0",
            "strip\n0", "x" * 4000, "tell", "board", "draw", "ask", "why", "false", "hush", "drop", "strip", "rule",
        ]
        self.assert_nothing_changed(NoRow, told_desk, *rows)
        self.assert_refused(NoRow, Desk(), *rows)

    def test_a_word_too_few_and_one_too_many(self):
        for row in ROWS:
            fewer = row.rpartition(" ")[0]
            rows = [fewer, row + " 1", row + " *", row + " high", "x " + row, row.partition(" ")[2]]
            self.assert_nothing_changed(NoRow, told_desk, *rows)
            self.assert_refused(NoRow, Desk(), *rows)

    def test_blanks(self):
        for row in ROWS:
            rows = [" " + row, row + " ", " " + row + " ", row + "  ", "  " + row]
            rows += [row[:place] + " " + row[place:] for place, sign in enumerate(row) if sign == " "]
            self.assert_nothing_changed(NoRow, told_desk, *rows)
            self.assert_refused(NoRow, Desk(), *rows)

    def test_numbers_out_of_form(self):
        for row in ROWS:
            words = row.split(" ")
            if words[1] == "high":
                continue
            for place in range(1, len(words)):
                ends = words[0] == "tell" and place > 2
                for word in NO_NUMBERS + ([] if ends else ["*"]) + (["**", "-*"] if ends else []):
                    wrong = " ".join(words[:place] + [word] + words[place + 1:])
                    self.assert_refused(NoRow, Desk(), wrong)
                    self.assert_refused(NoRow, told_desk(), wrong)

    def test_a_refused_number_changes_nothing(self):
        self.assert_nothing_changed(
            NoRow, told_desk, "board 3 3 2 1 01", "board 8 3 2 1 +1", "tell 0 0 1 -0", "tell 9 9 1 x", "hush 0 00",
            "board 3 3 2 1 *", "tell * 0 1 1", "draw 5 x", "strip *", "false *",
        )


class OrderTest(DesksTest):
    def test_no_board(self):
        rows = [
            "tell 0 0 1 2", "hush 0 0", "strip 0", "ask high", "why high", "false 0", "draw 0 5",
            # What else is wrong comes behind.
            "tell 9 9 2 1", "strip 99", "ask HIGH", "ask abcdefghi", "why 1", "ask ", "why ", "false 99", "draw 5 0",
        ]
        self.assert_refused(NoBoard, Desk(), *rows)
        desk = Desk()
        desk.say("rule high over 0 0 4")
        self.assert_refused(NoBoard, desk, *rows)

    def test_no_row_ahead_of_no_board(self):
        self.assert_refused(NoRow, Desk(), "tell 0 0 1", "strip x", "ask", "ask high high", "draw 0 *", "false -0")

    def test_no_board_is_needed(self):
        desk = Desk()
        self.assert_refused(NoName, desk, "drop high", "drop HIGH", "drop ", "rule HIGH over 0 0 4")
        self.assert_refused(NoRule, desk, "rule high x")
        self.assert_refused(NoEvent, desk, "rule high turn 0")
        self.assertEqual(answers(desk, "rule high turn 1", "drop high"), ["ok", "ok"])

    def test_no_name_ahead_of_the_deed(self):
        desk = told_desk()
        self.assert_refused(
            NoName, desk, "rule HIGH x", "rule  x", "rule abcdefghi turn 0", "rule h1 ",
            "rule a.b both over 0 9 5 over 0 10 5",
        )

    def test_after_a_refused_board_none_stands(self):
        desk = Desk()
        self.assert_refused(NoBoard, desk, "board 8 8 8 8 8", "strip 0")
        self.assertEqual(answers(desk, "board 1 1 0 0 0", "strip 0"), ["ok", "* *"])


class AskersOwnTest(unittest.TestCase):
    def test_desks_are_apart(self):
        one, other = told_desk(), Desk()
        other.say("board 1 1 0 0 0")
        self.assertEqual(one.say("strip 0"), "4 5")
        with self.assertRaises(NoName):
            other.say("ask high")
        one.say("drop high")
        self.assertEqual(told_desk().say("ask high"), "yes")

    def test_questions_change_nothing(self):
        desk = told_desk()
        self.assertEqual(all_that_stands(desk), all_that_stands(desk))
        self.assertEqual(all_that_stands(desk), all_that_stands(told_desk()))


if __name__ == "__main__":
    unittest.main()
