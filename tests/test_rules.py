"""Points 35 and 36: rules as texts, what is no rule, and events shown as rules."""

import itertools
import unittest

from gaze.boards import Board
from gaze.errors import NoEvent, NoRule, TooMany
from gaze.events import Both, Either, Event, Nay, Over, Paced, Rose, Stayed, Turned, Under
from gaze.rules import read, shown
from gaze.verdicts import lying
from tests.helper import Draws

SIXTY = "9" * 60
# Each form of a rule, with the event that it tells.
FORMS = [
    ("over 0 2 5", Over(0, 2, 5)),
    ("over 11 11 -5", Over(11, 11, -5)),
    ("under 0 2 0", Under(0, 2, 0)),
    ("under 3 7 -1", Under(3, 7, -1)),
    ("stay 0 2 1 4", Stayed(0, 2, (1, 4))),
    ("stay 0 2 * 4", Stayed(0, 2, (None, 4))),
    ("stay 0 2 -1 *", Stayed(0, 2, (-1, None))),
    ("stay 0 2 * *", Stayed(0, 2, (None, None))),
    ("stay 1 1 4 4", Stayed(1, 1, (4, 4))),
    ("rose 0 3 -2 7", Rose(0, 3, -2, 7)),
    ("rose 0 0 1 2", Rose(0, 0, 1, 2)),
    ("pace 0 2 -1 4", Paced(0, 2, (-1, 4))),
    ("pace 0 2 * 4", Paced(0, 2, (None, 4))),
    ("pace 0 2 1 *", Paced(0, 2, (1, None))),
    ("pace 5 5 * *", Paced(5, 5, (None, None))),
    ("turn 1", Turned(1)),
    ("turn 10", Turned(10)),
    ("both over 0 2 5 turn 1", Both(Over(0, 2, 5), Turned(1))),
    ("either turn 1 over 0 2 5", Either(Turned(1), Over(0, 2, 5))),
    ("not turn 2", Nay(Turned(2))),
    ("not not turn 2", Nay(Nay(Turned(2)))),
    (
        "both not either turn 1 under 0 1 2 either stay 0 1 * 2 both turn 3 pace 0 1 0 *",
        Both(
            Nay(Either(Turned(1), Under(0, 1, 2))),
            Either(Stayed(0, 1, (None, 2)), Both(Turned(3), Paced(0, 1, (0, None)))),
        ),
    ),
]
LEAVES = [text for text, event in FORMS if text.split(" ")[0] not in ("both", "either", "not")]


def told_by(event):
    return (event.ways(), event.breaks(), event.far(), event.sizes())


class RulesTest(unittest.TestCase):
    def assert_refused(self, refusal, *texts):
        for text in texts:
            with self.subTest(text=text), self.assertRaises(refusal):
                read(text)

    def assert_read(self, text):
        event = read(text)
        self.assertIsInstance(event, Event)
        self.assertEqual(event.text(), text)
        self.assertEqual(shown(event), text)
        return event


class FormsTest(RulesTest):
    def test_each_form(self):
        for text, event in FORMS:
            with self.subTest(text=text):
                self.assertEqual(told_by(self.assert_read(text)), told_by(event))
                self.assertEqual(event.text(), text)
                self.assertEqual(shown(event), text)

    def test_the_classes(self):
        for word, kind in [
            ("over 0 1 2", Over), ("under 0 1 2", Under), ("stay 0 1 2 3", Stayed), ("rose 0 1 2 3", Rose),
            ("pace 0 1 2 3", Paced), ("turn 1", Turned), ("both turn 1 turn 2", Both),
            ("either turn 1 turn 2", Either), ("not turn 1", Nay),
        ]:
            self.assertIsInstance(read(word), kind)

    def test_rules_in_rules(self):
        for one, other in itertools.product(LEAVES, repeat=2):
            for text in (f"both {one} {other}", f"either {one} {other}", f"not both {one} not {other}"):
                try:
                    self.assert_read(text)
                except TooMany:
                    self.assertGreater(max(a * b for a, b in zip(read(one).sizes(), read(other).sizes())), 100)

    def test_mixed(self):
        draws = Draws(41)
        read_well = 0
        for _ in range(300):
            text = self.mixed(draws, 4)
            if len(text.split(" ")) > 60:
                self.assert_refused(NoRule, text)
                continue
            try:
                self.assert_read(text)
                read_well += 1
            except TooMany:
                pass
        self.assertGreater(read_well, 150)

    def mixed(self, draws, depth):
        form = draws.number(0, 5) if depth else 0
        if form < 3:
            return draws.one_of(LEAVES)
        if form == 3:
            return "not " + self.mixed(draws, depth - 1)
        word = "both" if form == 4 else "either"
        return " ".join([word, self.mixed(draws, depth - 1), self.mixed(draws, depth - 1)])


class NumbersTest(RulesTest):
    def test_numbers(self):
        for number in [0, 1, -1, 9, 10, -10, 100, 90, -907, int(SIXTY), -int(SIXTY), 10 ** 59, -(10 ** 59)]:
            event = self.assert_read(f"over 0 1 {number}")
            self.assertEqual(told_by(event), told_by(Over(0, 1, number)))
            self.assert_read(f"stay 0 1 {number} {number}")
            self.assert_read(f"under 0 1 {number}")
            self.assert_read(f"pace 0 1 * {number}")

    def test_out_of_form(self):
        for word in [
            "-0", "+1", "007", "00", "01", "-01", "-00", "-", "--1", "+0", "1-", "1.0", "1e3", "0x1", "1_0", "a", "*1",
            "**", "'1'", "1,", "/", ":", ";", "o", "~", "None", "9" * 61, "-" + "9" * 61, "1" + "0" * 60, "0" * 60,
            "-*",
        ]:
            self.assert_refused(
                NoRule, f"over 0 1 {word}", f"over 0 {word} 1", f"over {word} 1 1", f"under 0 1 {word}",
                f"stay 0 1 {word} 5", f"stay 0 1 0 {word}", f"rose 0 1 {word} 5", f"rose 0 1 -9 {word}",
                f"pace 0 1 {word} *", f"pace 0 1 * {word}", f"turn {word}", f"not turn {word}",
                f"both turn {word} turn 1", f"either turn 1 turn {word}",
            )

    def test_figures_of_other_scripts(self):
        self.assert_refused(NoRule, "turn \u0661", "turn \u00b2", "over 0 1 \u0967")

    def test_where_an_open_end_may_not_stand(self):
        self.assert_refused(
            NoRule, "over 0 1 *", "over 0 * 1", "over * 1 1", "under 0 1 *", "under * * *", "rose 0 1 * 5",
            "rose 0 1 5 *", "rose 0 * 1 5", "stay * 1 0 1", "stay 0 * 0 1", "pace * 1 0 1", "pace 0 * 0 1", "turn *",
            "*", "not *", "both * *",
        )


class NoRuleTest(RulesTest):
    def test_no_words(self):
        self.assert_refused(NoRule, "", " ", "  ", "   ")

    def test_blanks(self):
        for text, event in FORMS:
            self.assert_refused(NoRule, " " + text, text + " ", " " + text + " ", text + "  ")
            for place, sign in enumerate(text):
                if sign == " ":
                    self.assert_refused(NoRule, text[:place] + " " + text[place:])

    def test_other_gaps(self):
        self.assert_refused(NoRule, "turn\t1", "turn\n1", "turn 1\n", "\tturn 1", "turn1", "turn,1", "(turn 1)")

    def test_a_word_too_few(self):
        for text, event in FORMS:
            words = text.split(" ")
            for place in range(len(words)):
                self.assert_refused(NoRule, " ".join(words[:place]))
        self.assert_refused(NoRule, "both turn 1", "either turn 1", "not", "both not turn 1", "over 0 1", "stay 0 1 2")

    def test_a_word_too_many(self):
        for text, event in FORMS:
            for more in ["1", "*", "over", "turn 1", "x", "not", text]:
                self.assert_refused(NoRule, f"{text} {more}")
            for more in ["1", "*", "over", "turn 1", "x", "both", text]:
                self.assert_refused(NoRule, f"{more} {text}")

    def test_words_of_another_case_and_unknown_ones(self):
        for word in ["Turn", "TURN", "tURN", "turned", "tur", "turns", "t", "1", "nay", "Nay", "turn."]:
            self.assert_refused(NoRule, f"{word} 1", f"not {word} 1", f"both turn 1 {word} 1", f"both {word} 1 turn 1")
        for word in ["OVER", "Over", "overs", "stayed", "Stay", "rise", "paced", "Under", "Rose", "Pace"]:
            self.assert_refused(NoRule, f"{word} 0 1 2", f"{word} 0 1 2 3")
        for word in ["Both", "BOTH", "Either", "and", "or", "Not", "NOT"]:
            self.assert_refused(NoRule, f"{word} turn 1 turn 2", f"{word} turn 1")

    def test_sixty_words_and_sixty_one(self):
        sixty = "not " * 58 + "turn 1"
        self.assertEqual(len(sixty.split(" ")), 60)
        event = self.assert_read(sixty)
        self.assertEqual(event.sizes(), (1, 2))
        self.assert_refused(NoRule, "not " + sixty, "not not " + sixty)
        self.assert_read("not " * 57 + "turn 1")
        both = "both stay 0 0 * * " * 11 + "stay 0 0 * *"
        self.assertEqual(len(both.split(" ")), 71)
        self.assert_refused(NoRule, both)
        both = "both turn 1 " * 19 + "not turn 1"
        self.assertEqual(len(both.split(" ")), 60)
        self.assertEqual(self.assert_read(both).sizes(), (2, 39))

    def test_sixty_words_that_are_none(self):
        self.assert_refused(NoRule, "not " * 59 + "turn", "not " * 59 + "turn 1", " " * 59, "1 " * 59 + "1")

    def test_four_thousand_signs(self):
        long = f"stay 0 1 -{SIXTY} {SIXTY}"
        rule = "both " * 8 + " ".join([long] * 9)
        self.assertEqual(len(rule.split(" ")), 53)
        self.assert_read(rule)
        self.assert_refused(NoRule, "x" * 4000, "not " * 1000, "turn " + "1" * 3995, " " * 4000)


class NoEventTest(RulesTest):
    def test_bounds(self):
        self.assert_refused(
            NoEvent, "over 0 12 1", "over -1 2 1", "over 3 2 1", "under 12 12 1", "under 1 0 0", "stay 0 12 1 2",
            "stay 5 4 * *", "rose 0 12 1 2", "rose 2 1 1 2", "rose 0 1 1 1", "rose 0 1 2 1", "rose 0 0 5 5",
            "pace 0 12 1 2", "pace -1 -1 * *", "pace 1 0 1 2", "turn 0", "turn 11", "turn -1", "turn 12",
            f"turn {SIXTY}", f"over 0 {SIXTY} 1", f"over -{SIXTY} 0 1",
        )
        self.assert_refused(NoEvent, "not turn 0", "both turn 1 turn 11", "either over 3 2 1 turn 1")

    def test_low_above_high(self):
        self.assert_refused(NoEvent, "stay 0 1 2 1", "pace 0 1 2 1", f"stay 0 1 {SIXTY} -{SIXTY}", "not stay 0 1 0 -1")
        self.assert_refused(NoEvent, "pace 3 3 1 0", "both turn 1 pace 0 1 0 -1", "stay 0 0 1 0")
        self.assert_read("stay 0 1 2 2")
        self.assert_read("pace 0 1 -1 -1")

    def test_too_many(self):
        self.assert_read("both over 0 9 5 over 0 9 5")
        self.assert_refused(
            TooMany, "both over 0 9 5 over 0 10 5", "either not over 0 9 5 not over 0 10 5",
            "not both rose 0 11 1 2 rose 0 11 1 2", "both turn 1 both over 0 9 5 over 0 10 5",
        )

    def test_either_of_the_two_where_both_are_due(self):
        for text in ["both turn 0 both over 0 9 5 over 0 10 5", "both both over 0 9 5 over 0 10 5 stay 0 1 2 1"]:
            with self.subTest(text=text), self.assertRaises((NoEvent, TooMany)):
                read(text)

    def test_no_rule_ahead_of_all(self):
        self.assert_refused(
            NoRule, "both turn 0 turn x", "both turn 0", "turn 0 1", "turn 0 ", " turn 0", "stay 0 1 2 1 ",
            "stay 0 1 2 1 5", "both stay 0 1 2 1 turn", "both both over 0 9 5 over 0 10 5 turn -0",
            "both over 0 9 5 over 0 10 5 5", "either rose 0 1 2 1 nothing", "over 5 4 007", "over 0 99 *",
            "not " * 59 + "turn 0", "both both over 0 9 5 over 0 10 5 both turn 1 turn",
        )


class ShownTest(RulesTest):
    def test_greater_events_are_still_texts(self):
        event = Turned(1)
        for _ in range(59):
            event = Nay(event)
        self.assertEqual(event.text(), "not " * 59 + "turn 1")
        self.assertIs(type(Over(0, 1, 10 ** 299).text()), str)

    def test_of_an_eye(self):
        event = lying(Board(1, 1, 0, 0, 0), 0)
        self.assertIs(type(event.text()), str)
        self.assertIs(type(shown(Nay(Both(event, Turned(1))))), str)

    def test_what_was_told_stays(self):
        event = read("both over 0 1 5 turn 1")
        event.ways().clear()
        event.ways()[0].clear()
        self.assertEqual(event.text(), "both over 0 1 5 turn 1")
        self.assertEqual(len(event.ways()), 2)


if __name__ == "__main__":
    unittest.main()
