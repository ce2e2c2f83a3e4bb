"""Points 1 to 3 over the whole program, and the interface: its names and arguments."""

import importlib
import inspect
import itertools
import unittest

from gaze.boards import Board
from gaze.desk import Desk
from gaze.errors import GazeError, NoAlarm
from gaze.events import Both, Either, Nay, Over, Paced, Rose, Stayed, Turned, Under
from gaze.foes import lie
from gaze.gauges import Gauge
from gaze.hearing import listen
from gaze.papers import ask
from gaze.places import places, strips
from gaze.sorts import Contact, Gauged, Plain
from gaze.verdicts import lying, reason, verdict, windows
from gaze.worlds import fits, least, liars, quarrels, suspects
from tests.helper import (
    Draws, board_of, fitting, is_fit, is_held, is_met, lying_eyes, own_steps, refutes, some_board, some_stretch,
    steps_of, walks,
)

FUNCTIONS = {
    "ratios": [
        "ratio(top, bottom)", "plus(one, other)", "minus(one, other)", "times(one, other)", "under(one, other)",
        "floored(one)", "raised(one)",
    ],
    "stretches": [
        "stretch(lo, hi)", "holds(one, number)", "meet(one, other)", "widened(one, by)", "gathered(some)", "hull(some)",
    ],
    "gauges": ["Gauge(knots)"],
    "fitting": ["leaps(points, error)", "fewest(points, error)"],
    "contacts": ["settled(looks, many, before)", "sills(course, low, high)", "by_state(state, low, high)"],
    "sorts": [
        "Eye(drift, since)", "Plain(drift, since)", "Gauged(drift, since, gauge, error)",
        "Contact(drift, since, many, low, high)",
    ],
    "votes": ["agree(some, need)", "most_agree(some)"],
    "boards": ["Board(eyes, turns, up, down, most)"],
    "hearing": ["listen(board, eye, sort, words)"],
    "claims": ["meets(course, claim)", "paces(board, claim)", "wanted(board, claim)"],
    "chains": [
        "rise(steps, one, other)", "clash(steps, one, other)", "course_in(steps, marks)", "clashing(steps, marks)",
        "tube(steps, marks)",
    ],
    "worlds": [
        "liars(board, course)", "fits(board, course)", "quarrels(board)", "suspects(board)", "least(board)",
    ],
    "papers": ["ask(board, claim)"],
    "places": ["places(board, turn)", "strips(board)"],
    "events": [
        "Stayed(first, last, stretch)", "Over(first, last, sill)", "Under(first, last, sill)",
        "Rose(first, last, low, high)", "Paced(first, last, stretch)", "Turned(turn)", "Both(one, other)",
        "Either(one, other)", "Nay(one)",
    ],
    "verdicts": [
        "verdict(board, event)", "lying(board, eye)", "reason(board, event)", "windows(board, low, high)",
    ],
    "rules": ["read(text)", "shown(event)"],
    "foes": ["lie(board, some, claim)"],
    "drawings": ["drawing(board, low, high)"],
    "desk": ["Desk()"],
}
METHODS = {
    ("gauges", "Gauge"): ["forth(self, raw)", "back(self, value)"],
    ("sorts", "Eye"): ["slack(self, turn)"],
    ("sorts", "Plain"): ["stretches(self, words)"],
    ("sorts", "Gauged"): ["stretches(self, words)"],
    ("sorts", "Contact"): ["stretches(self, words)"],
    ("boards", "Board"): [
        "tell(self, eye, turn, lo, hi)", "hush(self, eye, turn)", "word(self, eye, turn)", "tellings(self)",
        "twin(self)", "keeping(self, spots)", "allowing(self, most)",
    ],
    ("desk", "Desk"): ["say(self, row)"],
}
EVENT_METHODS = ["held(self, course)", "far(self)", "ways(self)", "breaks(self)", "sizes(self)", "text(self)"]


class InterfaceTest(unittest.TestCase):
    def assert_signature(self, holder, signature):
        name, arguments = signature.rstrip(")").split("(")
        found = inspect.signature(getattr(holder, name))
        self.assertEqual(str(found), f"({arguments})", (holder, name))

    def test_functions_and_classes(self):
        for module, signatures in FUNCTIONS.items():
            for signature in signatures:
                self.assert_signature(importlib.import_module(f"gaze.{module}"), signature)

    def test_methods(self):
        for (module, name), signatures in METHODS.items():
            for signature in signatures:
                self.assert_signature(getattr(importlib.import_module(f"gaze.{module}"), name), signature)

    def test_events(self):
        events = importlib.import_module("gaze.events")
        for signature in FUNCTIONS["events"]:
            kind = getattr(events, signature.split("(")[0])
            self.assertTrue(issubclass(kind, events.Event))
            for method in EVENT_METHODS:
                self.assert_signature(kind, method)
        self.assertIsInstance(lying(Board(1, 1, 0, 0, 0), 0), events.Event)

    def test_refusals(self):
        errors = importlib.import_module("gaze.errors")
        names = (
            "NoRatio NoStretch NoGauge OffGauge NoSills NoBoard NoTelling NoClaim NoEvent TooMany NoRule NoAlarm NoRow"
            " NoName"
        ).split(" ")
        kinds = [getattr(errors, name) for name in names]
        self.assertTrue(issubclass(GazeError, ValueError))
        for one, other in itertools.permutations(kinds, 2):
            self.assertFalse(issubclass(one, other))
        for kind in kinds:
            self.assertTrue(issubclass(kind, GazeError))
            self.assertIsNot(kind, GazeError)


def some_walk(draws, board):
    """A course whose steps the board allows."""
    course = [draws.number(-5, 5)]
    while len(course) < board.turns:
        course.append(course[-1] + draws.number(-board.down, board.up))
    return course


def watched(draws, most, liars_at_most):
    """A board with the truth that its eyes saw, of which at most so many lied."""
    eyes = draws.number(max(1, most), 5)
    board = Board(eyes, draws.number(1, 6), draws.number(0, 3), draws.number(0, 3), most)
    truth = some_walk(draws, board)
    for eye, turn in itertools.product(range(eyes), range(board.turns)):
        if draws.number(0, 2) == 0:
            continue
        if eye < liars_at_most:
            lo, hi = some_stretch(draws, -9, 9)
        else:
            lo, hi = truth[turn] - draws.number(0, 2), truth[turn] + draws.number(0, 2)
        board.tell(eye, turn, lo, hi)
    return board, truth


class TruthTest(unittest.TestCase):
    def test_the_truth_is_in_the_places(self):
        draws = Draws(45)
        for _ in range(150):
            most = draws.number(0, 3)
            board, truth = watched(draws, most, most)
            self.assertTrue(fits(board, truth))
            for turn in range(board.turns):
                self.assertTrue(any(is_held(one, truth[turn]) for one in places(board, turn)))
                self.assertTrue(is_held(strips(board)[turn], truth[turn]))
            last = board.turns - 1
            for event in [Over(0, last, 2), Rose(0, last, -1, 2), Paced(0, last, (0, 1))]:
                # What is told as sure is so in truth, and what is told as shut out is not.
                self.assertIn(verdict(board, event)[0], ("open", "yes" if event.held(truth) else "no"))
            for eye in range(board.eyes):
                self.assertIn(
                    verdict(board, lying(board, eye))[0], ("open", "yes" if eye in lying_eyes(board, truth) else "no")
                )

    def test_no_smaller_places_could_be_told(self):
        # For each number in the places there is a course that may have been the truth just as well.
        draws = Draws(46)
        for _ in range(40):
            board, truth = watched(draws, 1, 1)
            for turn in range(board.turns):
                told = places(board, turn)
                for number in range(-8, 9):
                    claim = [("at", turn, (number, number))]
                    answer = ask(board, claim)
                    if any(is_held(one, number) for one in told):
                        self.assertEqual(answer[0], "may")
                        self.assertTrue(is_fit(board, answer[1]) and answer[1][turn] == number)
                    else:
                        self.assertEqual(answer[0], "never")
                        self.assertTrue(refutes(board, claim, answer[1]))

    def test_one_eye_more(self):
        # Those that lie choose any course in which no more of the others lie than told, be it true or not.
        draws = Draws(47)
        chosen = 0
        for _ in range(150):
            most = draws.number(0, 2)
            board, truth = watched(draws, most, 0)
            if board.eyes <= most:
                continue
            foes = list(range(board.eyes))[:most + 1]
            course = some_walk(draws, board)
            claim = [("at", turn, (number, number)) for turn, number in enumerate(course)]
            lied = lie(board, foes, claim)
            if len(set(lying_eyes(board, course)) - set(foes)) > most:
                self.assertIsNone(lied)
                continue
            chosen += 1
            self.assertEqual([places(lied, turn) for turn in range(board.turns)], [[(n, n)] for n in course])
        self.assertGreater(chosen, 40)

    def test_no_more_than_told_cannot(self):
        draws = Draws(48)
        for _ in range(100):
            most = draws.number(1, 3)
            board, truth = watched(draws, most, 0)
            lied = lie(board, list(range(most)), [("at", 0, (draws.number(-9, 9), None))])
            if lied is not None:
                self.assertTrue(fits(lied, truth))
                for turn in range(board.turns):
                    self.assertTrue(any(is_held(one, truth[turn]) for one in places(lied, turn)))


class SmallBoardsTest(unittest.TestCase):
    """Each answer held against all courses."""

    EVENTS = [
        Over(0, 1, 2), Under(0, 1, -1), Stayed(0, 1, (-2, 2)), Rose(0, 1, 0, 1), Paced(0, 1, (0, None)),
        Both(Over(0, 0, 0), Nay(Over(1, 1, 2))), Either(Under(1, 1, 0), Stayed(0, 0, (1, 3))), Turned(1),
        Nay(Turned(1)), Nay(Either(Rose(0, 2, 0, 2), Turned(1))),
    ]

    def boards(self):
        draws = Draws(49)
        for _ in range(60):
            board = some_board(draws, Board, eyes=3, turns=3, words=9, moves=draws.number(0, 2))
            # Ends are from -3 to 3 and courses move by at most 4 in all: whoever begins beyond 8 is beyond all ends.
            yield board, fitting(board, -12, 12), walks(own_steps(board), -12, 12)

    def test_worlds(self):
        for board, fit, every in self.boards():
            for course in every:
                self.assertEqual(liars(board, course), lying_eyes(board, course))
                self.assertIs(fits(board, course), course in fit)
            number, course = least(board)
            self.assertEqual(number, min(len(lying_eyes(board, course)) for course in every))
            self.assertEqual(len(lying_eyes(board, course)), number)
            self.assertEqual(bool(fit), board.most >= number)
            self.assertEqual(bool(suspects(board)), bool(fit))

    def test_suspects_are_those_that_can_lie_alone(self):
        for board, fit, every in self.boards():
            lied = [lying_eyes(board, course) for course in every]
            lean = [some for some in lied if not any(set(other) < set(some) for other in lied)]
            lean = [list(some) for some in sorted({tuple(some) for some in lean}) if len(some) <= board.most]
            self.assertEqual(suspects(board), lean)
            for one, other in itertools.combinations_with_replacement(range(board.eyes), 2):
                apart = all(one in some or other in some for some in lied)
                surely = any(pair in quarrels(board) for pair in [(one, one), (other, other), (one, other)])
                self.assertEqual(apart, surely)

    def test_verdicts(self):
        for board, fit, every in self.boards():
            events = [event for event in self.EVENTS if event.far() < board.turns]
            for event in events + [lying(board, eye) for eye in range(board.eyes)]:
                truths = {event.held(course) for course in fit}
                told = verdict(board, event)
                word = "none" if not truths else "open" if len(truths) == 2 else "yes" if True in truths else "no"
                self.assertEqual(told[0], word)
                if word == "open":
                    self.assertTrue(told[1] in fit or is_fit(board, told[1]))
                    self.assertTrue(event.held(told[1]) and not event.held(told[2]) and is_fit(board, told[2]))
                elif word == "none":
                    self.assertTrue(refutes(board, [], told[1]))
                else:
                    claims = event.breaks() if word == "yes" else event.ways()
                    self.assertEqual(len(told[1]), len(claims))
                    self.assertTrue(all(refutes(board, claim, paper) for claim, paper in zip(claims, told[1])))

    def test_reasons(self):
        for board, fit, every in self.boards():
            for event in [event for event in self.EVENTS if event.far() < board.turns]:
                if not fit or not all(event.held(course) for course in fit):
                    with self.assertRaises(NoAlarm):
                        reason(board, event)
                    continue
                told = reason(board, event)
                kept = fitting(board.keeping(told), -12, 12)
                self.assertTrue(all(event.held(course) for course in kept))
                for spot in told:
                    fewer = board.keeping([other for other in told if other != spot])
                    self.assertFalse(all(event.held(course) for course in fitting(fewer, -12, 12)), (told, spot))

    def test_windows(self):
        for board, fit, every in self.boards():
            pairs = list(itertools.combinations(range(board.turns), 2))
            sure = [
                pair for pair in pairs if fit and all(Rose(pair[0], pair[1], 0, 2).held(course) for course in fit)
            ]
            lean = [
                pair for pair in sure
                if not any(other != pair and pair[0] <= other[0] and other[1] <= pair[1] for other in sure)
            ]
            self.assertEqual(windows(board, 0, 2), lean)

    def test_claims(self):
        draws = Draws(50)
        for board, fit, every in self.boards():
            for _ in range(5):
                turn = draws.number(0, board.turns - 1)
                claim = [("at", turn, some_stretch(draws, -3, 3))]
                if board.turns > 1:
                    claim.append(("step", draws.number(0, board.turns - 2), some_stretch(draws, -2, 2)))
                answer = ask(board, claim)
                self.assertEqual(answer[0], "may" if any(is_met(course, claim) for course in fit) else "never")
                if answer[0] == "never":
                    self.assertTrue(refutes(board, claim, answer[1]))
                else:
                    self.assertTrue(is_fit(board, answer[1]) and is_met(answer[1], claim))


class StoryTest(unittest.TestCase):
    """From raw words to a reason: all stages in one."""

    def test_three_sorts_of_eyes(self):
        board = Board(3, 4, 3, 3, 1)
        listen(board, 0, Plain((1, 2), 0), [(0, 1), None, (5, 6), None])
        listen(board, 1, Gauged((0, 1), 0, Gauge([(0, 0), (10, 20)]), 1), [1, 2, None, 4])
        listen(board, 2, Contact((0, 1), 0, 2, 3, 5), [[0, 0], [0, 1], [1, 1], [0]])
        self.assertEqual(
            board.tellings(),
            [
                (0, 0, (0, 1)), (0, 2, (4, 7)), (1, 0, (0, 4)), (1, 1, (2, 6)), (1, 3, (6, 10)), (2, 0, (None, 4)),
                (2, 1, (None, 4)), (2, 2, (4, None)), (2, 3, (4, None)),
            ],
        )
        for turn, told in enumerate(strips(board)):
            numbers = {course[turn] for course in fitting(board, -20, 40)}
            self.assertEqual(told, (min(numbers), max(numbers)))
        self.assertEqual(suspects(board), [[]])
        self.assertEqual(least(board)[0], 0)
        event = Over(2, 3, 4)
        self.assertEqual(verdict(board, event)[0], "yes")
        self.assertEqual(verdict(board.keeping(reason(board, event)), event)[0], "yes")

    def test_the_same_on_a_desk(self):
        desk = Desk()
        for row in ["board 3 2 2 2 1", "tell 0 0 0 1", "tell 1 1 2 3", "tell 2 0 9 9", "rule low under 0 1 3"]:
            self.assertEqual(desk.say(row), "ok")
        board = board_of(Board(3, 2, 2, 2, 1), (0, 0, 0, 1), (1, 1, 2, 3), (2, 0, 9, 9))
        self.assertEqual(desk.say("ask low"), verdict(board, Under(0, 1, 3))[0])
        self.assertEqual(desk.say("false 2"), verdict(board, lying(board, 2))[0])
        self.assertEqual(desk.say("ask low"), "yes")
        self.assertEqual(desk.say("false 2"), "yes")
        self.assertTrue(all(abs(step) <= 2 for step in steps_of(least(board)[1])))


if __name__ == "__main__":
    unittest.main()
