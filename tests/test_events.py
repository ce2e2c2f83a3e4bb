"""Points 29 and 30: sorts of events, their ways and breaks, how far they speak; and what point 2 says of them."""

import itertools
import unittest

from gaze.errors import NoEvent, TooMany
from gaze.events import Both, Either, Event, Nay, Over, Paced, Rose, Stayed, Turned, Under
from tests.helper import GREAT, GREATEST, Draws, is_held, is_met, some_stretch, steps_of

ALL = (None, None)
# Spans of turns that no event has.
NO_SPANS = [(-1, 3), (0, 12), (3, 2), (11, 0), (12, 12), (-1, -1), (5, 4), (-GREAT, 3), (0, GREAT), (GREAT, GREAT)]
SPANS = [(0, 0), (0, 11), (11, 11), (3, 4), (5, 5)]


def stayed(first, last, one):
    return lambda course: all(is_held(one, number) for number in course[first:last + 1])


def over(first, last, sill):
    return lambda course: max(course[first:last + 1]) >= sill


def under(first, last, sill):
    return lambda course: min(course[first:last + 1]) <= sill


def rose(first, last, low, high):
    return lambda course: any(
        one <= low and other >= high for one, other in itertools.combinations(course[first:last + 1], 2)
    )


def paced(first, last, one):
    return lambda course: all(is_held(one, step) for step in steps_of(course)[first:last])


def turned(turn):
    return lambda course: course[turn - 1] < course[turn] > course[turn + 1]


def ends(one):
    return 2 - one.count(None)


class EventsTest(unittest.TestCase):
    def assert_event(self, event, had, sizes, far, low=-2, high=2):
        """The event against the reckoning had on all courses from low to high, and all that it tells of itself."""
        self.assertIsInstance(event, Event)
        self.assertEqual(event.sizes(), sizes)
        self.assertIs(type(event.sizes()), tuple)
        self.assertEqual(event.far(), far)
        ways, breaks = event.ways(), event.breaks()
        self.assertEqual((len(ways), len(breaks)), sizes)
        self.assert_no_later(ways + breaks, far)
        for course in itertools.product(range(low, high + 1), repeat=far + 1):
            course = list(course)
            truth = had(course)
            self.assertIs(event.held(course), truth, course)
            self.assertIs(any(is_met(course, claim) for claim in ways), truth, (course, ways))
            self.assertIs(any(is_met(course, claim) for claim in breaks), not truth, (course, breaks))

    def assert_no_later(self, claims, far):
        for claim in claims:
            self.assertIs(type(claim), list)
            for kind, turn, one in claim:
                self.assertIn(kind, ("at", "step"))
                self.assertTrue(0 <= turn <= (far if kind == "at" else far - 1), (kind, turn, far))
                self.assertEqual([type(one), len(one)], [tuple, 2])

    def assert_refused(self, refusal, make, *arguments):
        with self.subTest(make=make.__name__, arguments=arguments), self.assertRaises(refusal):
            make(*arguments)


class SortsTest(EventsTest):
    def test_stayed(self):
        for first, last in [(0, 0), (1, 1), (0, 2), (1, 3), (2, 3)]:
            for one in [(0, 1), (0, 0), (-5, 5), (None, 0), (1, None), ALL]:
                n = last - first + 1
                self.assert_event(Stayed(first, last, one), stayed(first, last, one), (1, n * ends(one)), last)

    def test_over_and_under(self):
        for first, last in [(0, 0), (1, 1), (0, 2), (1, 3), (2, 3)]:
            for sill in [-3, -2, 0, 1, 2, 3]:
                n = last - first + 1
                self.assert_event(Over(first, last, sill), over(first, last, sill), (n, 1), last)
                self.assert_event(Under(first, last, sill), under(first, last, sill), (n, 1), last)

    def test_rose(self):
        for first, last in [(0, 0), (1, 1), (0, 1), (0, 2), (1, 3), (0, 3), (2, 3)]:
            for low, high in [(0, 1), (-1, 1), (-2, 2), (1, 2), (-3, 0), (0, 3)]:
                n = last - first + 1
                sizes = (n * (n - 1) // 2, n)
                self.assert_event(Rose(first, last, low, high), rose(first, last, low, high), sizes, last)

    def test_paced(self):
        for first, last in [(0, 0), (1, 1), (0, 1), (0, 2), (1, 3), (2, 3)]:
            for one in [(0, 1), (0, 0), (-1, 2), (None, 0), (1, None), ALL, (3, 5)]:
                n = last - first + 1
                self.assert_event(Paced(first, last, one), paced(first, last, one), (1, (n - 1) * ends(one)), last)

    def test_turned(self):
        self.assert_event(Turned(1), turned(1), (1, 2), 2)
        self.assert_event(Turned(2), turned(2), (1, 2), 3)

    def test_the_greatest_sizes(self):
        self.assertEqual(Stayed(0, 11, (1, 2)).sizes(), (1, 24))
        self.assertEqual(Over(0, 11, 3).sizes(), (12, 1))
        self.assertEqual(Under(0, 11, 3).sizes(), (12, 1))
        self.assertEqual(Rose(0, 11, 3, 4).sizes(), (66, 12))
        self.assertEqual(Paced(0, 11, (1, 2)).sizes(), (1, 22))
        self.assertEqual(Turned(10).sizes(), (1, 2))
        for event in [Stayed(0, 11, (1, 2)), Rose(0, 11, 3, 4), Paced(0, 11, (1, 2)), Turned(10), Over(0, 11, 3)]:
            self.assertEqual((len(event.ways()), len(event.breaks())), event.sizes())
            self.assertEqual(event.far(), 11)
            self.assert_no_later(event.ways() + event.breaks(), 11)

    def test_a_course_that_goes_on(self):
        course = [0, 5, 0, 99, -99]
        self.assertIs(Over(0, 2, 6).held(course), False)
        self.assertIs(Over(0, 2, 5).held(course), True)
        self.assertIs(Under(1, 2, -1).held(course), False)
        self.assertIs(Paced(0, 2, (-5, 5)).held(course), True)
        self.assertIs(Turned(1).held(course), True)
        self.assertIs(Rose(1, 2, 0, 5).held(course), False)
        self.assertIs(Stayed(1, 2, (0, 5)).held(course), True)

    def test_very_great_numbers(self):
        self.assertIs(Over(0, 1, GREATEST).held([0, GREATEST]), True)
        self.assertIs(Over(0, 1, GREATEST).held([0, GREATEST - 1]), False)
        self.assertIs(Under(0, 1, -GREATEST).held([0, -GREATEST]), True)
        self.assertIs(Rose(0, 1, -GREATEST, GREATEST).held([-GREATEST, GREATEST]), True)
        self.assertIs(Rose(0, 1, -GREATEST, GREATEST).held([1 - GREATEST, GREATEST]), False)
        self.assertIs(Paced(0, 1, (2 * GREATEST, None)).held([-GREATEST, GREATEST]), True)
        self.assertIs(Stayed(0, 1, (-GREATEST, GREATEST)).held([-GREATEST, GREATEST]), True)


class BoundsTest(EventsTest):
    def test_spans(self):
        for first, last in SPANS:
            self.assertEqual(Stayed(first, last, (0, 1)).far(), last)
            self.assertEqual(Over(first, last, 0).far(), last)
            self.assertEqual(Under(first, last, 0).far(), last)
            self.assertEqual(Rose(first, last, 0, 1).far(), last)
            self.assertEqual(Paced(first, last, (0, 1)).far(), last)
        for first, last in NO_SPANS:
            self.assert_refused(NoEvent, Stayed, first, last, (0, 1))
            self.assert_refused(NoEvent, Stayed, first, last, ALL)
            self.assert_refused(NoEvent, Over, first, last, 0)
            self.assert_refused(NoEvent, Under, first, last, 0)
            self.assert_refused(NoEvent, Rose, first, last, 0, 1)
            self.assert_refused(NoEvent, Paced, first, last, (0, 1))

    def test_low_and_high(self):
        for low in [0, -5, 7, GREAT, -GREATEST]:
            self.assertEqual(Rose(0, 1, low, low + 1).sizes(), (1, 2))
            self.assert_refused(NoEvent, Rose, 0, 1, low, low)
            self.assert_refused(NoEvent, Rose, 0, 1, low + 1, low)
            self.assert_refused(NoEvent, Rose, 0, 0, low, low)
            self.assert_refused(NoEvent, Rose, 1, 0, low, low)

    def test_turned(self):
        for turn in range(1, 11):
            self.assertEqual(Turned(turn).far(), turn + 1)
        for turn in [0, 11, -1, 12, GREAT, -GREAT]:
            self.assert_refused(NoEvent, Turned, turn)


class CombinedTest(EventsTest):
    def test_of_each_other(self):
        parts = [
            (Stayed(0, 1, (0, 1)), stayed(0, 1, (0, 1)), (1, 4), 1),
            (Over(1, 2, 1), over(1, 2, 1), (2, 1), 2),
            (Under(0, 0, -1), under(0, 0, -1), (1, 1), 0),
            (Rose(0, 2, -1, 1), rose(0, 2, -1, 1), (3, 3), 2),
            (Rose(1, 1, -1, 1), rose(1, 1, -1, 1), (0, 1), 1),
            (Paced(0, 2, (None, 0)), paced(0, 2, (None, 0)), (1, 2), 2),
            (Turned(1), turned(1), (1, 2), 2),
            (Stayed(0, 2, ALL), stayed(0, 2, ALL), (1, 0), 2),
        ]
        for (one, had, (a, b), far), (other, also, (c, d), beside) in itertools.product(parts, repeat=2):
            greater = max(far, beside)
            both, either = Both(one, other), Either(one, other)
            self.assert_event(both, lambda course: had(course) and also(course), (a * c, b + d), greater)
            self.assert_event(either, lambda course: had(course) or also(course), (a + c, b * d), greater)
        for one, had, (a, b), far in parts:
            self.assert_event(Nay(one), lambda course: not had(course), (b, a), far)
            self.assert_event(Nay(Nay(one)), had, (a, b), far)

    def test_deeper(self):
        event = Both(Nay(Either(Over(0, 1, 2), Turned(1))), Either(Nay(Under(2, 2, 0)), Rose(0, 2, -1, 1)))
        first, second, third, fourth = over(0, 1, 2), turned(1), under(2, 2, 0), rose(0, 2, -1, 1)

        def had(course):
            return not (first(course) or second(course)) and (not third(course) or fourth(course))

        self.assert_event(event, had, (8, 6), 2)

    def test_mixed(self):
        draws = Draws(36)
        for _ in range(60):
            event, had, sizes, far = self.mixed(draws, 3)
            self.assert_event(event, had, sizes, far, -1, 2)

    def mixed(self, draws, depth):
        form = draws.number(0, 8) if depth else draws.number(0, 5)
        first, last = sorted(draws.numbers(2, 0, 2))
        n, one, number = last - first + 1, some_stretch(draws, -1, 2), draws.number(-1, 2)
        if form == 0:
            return Stayed(first, last, one), stayed(first, last, one), (1, n * ends(one)), last
        if form == 1:
            return Over(first, last, number), over(first, last, number), (n, 1), last
        if form == 2:
            return Under(first, last, number), under(first, last, number), (n, 1), last
        if form == 3:
            return Rose(first, last, 0, 1), rose(first, last, 0, 1), (n * (n - 1) // 2, n), last
        if form == 4:
            return Paced(first, last, one), paced(first, last, one), (1, (n - 1) * ends(one)), last
        if form == 5:
            return Turned(1), turned(1), (1, 2), 2
        event, had, (a, b), far = self.mixed(draws, depth - 1)
        if form == 6:
            return Nay(event), lambda course: not had(course), (b, a), far
        other, also, (c, d), beside = self.mixed(draws, depth - 1)
        both, either = (a * c, b + d), (a + c, b * d)
        if max(both if form == 7 else either) > 100:
            self.assert_refused(TooMany, Both if form == 7 else Either, event, other)
            return event, had, (a, b), far
        if form == 7:
            return Both(event, other), lambda course: had(course) and also(course), both, max(far, beside)
        return Either(event, other), lambda course: had(course) or also(course), either, max(far, beside)

    def test_sixty_sorts(self):
        event, truth = Over(0, 1, 1), True
        for _ in range(59):
            event, truth = Nay(event), not truth
        self.assertIs(event.held([0, 1]), truth)
        self.assertEqual(event.sizes(), (1, 2))
        event = Turned(1)
        for _ in range(29):
            event = Both(event, Stayed(0, 1, (-9, None)))
        self.assertEqual(event.sizes(), (1, 2 + 2 * 29))
        self.assertEqual((len(event.ways()), len(event.breaks())), event.sizes())
        self.assertIs(event.held([0, 1, 0]), True)
        self.assertIs(event.held([-10, 1, 0]), False)


class TooManyTest(EventsTest):
    # Sizes (10, 1) and (1, 10); Nay turns them round.
    TEN = Over(0, 9, 5)
    ELEVEN = Over(0, 10, 5)

    def test_just_a_hundred(self):
        self.assertEqual(Both(self.TEN, self.TEN).sizes(), (100, 2))
        self.assertEqual(Either(Nay(self.TEN), Nay(self.TEN)).sizes(), (2, 100))
        self.assertEqual(len(Both(self.TEN, self.TEN).ways()), 100)
        self.assertEqual(len(Either(Nay(self.TEN), Nay(self.TEN)).breaks()), 100)
        hundred = Both(self.TEN, self.TEN)
        self.assertEqual(Nay(hundred).sizes(), (2, 100))
        self.assertEqual(Both(hundred, Stayed(0, 0, ALL)).sizes(), (100, 2))
        self.assertEqual(Either(hundred, Rose(0, 0, 1, 2)).sizes(), (100, 2))

    def test_more(self):
        self.assert_refused(TooMany, Both, self.TEN, self.ELEVEN)
        self.assert_refused(TooMany, Both, self.ELEVEN, self.TEN)
        self.assert_refused(TooMany, Either, Nay(self.TEN), Nay(self.ELEVEN))
        self.assert_refused(TooMany, Both, Both(self.TEN, self.TEN), Over(0, 1, 3))
        self.assert_refused(TooMany, Both, Rose(0, 11, 1, 2), Rose(0, 11, 1, 2))

    def test_the_sums(self):
        hundred = Both(self.TEN, self.TEN)
        self.assert_refused(TooMany, Either, hundred, Over(0, 0, 3))
        self.assert_refused(TooMany, Both, Nay(hundred), Under(0, 0, 3))
        ninety = Both(self.TEN, Over(0, 8, 5))
        self.assertEqual(Either(ninety, self.TEN).sizes(), (100, 2))
        self.assertEqual(Both(Nay(ninety), Nay(self.TEN)).sizes(), (2, 100))
        self.assert_refused(TooMany, Either, ninety, self.ELEVEN)
        self.assert_refused(TooMany, Both, Nay(ninety), Nay(self.ELEVEN))

    def test_either_and_both_of_the_other_size_alone(self):
        # The product may be small where the sum is great, and the other way round.
        self.assertEqual(Both(Nay(self.ELEVEN), Nay(self.ELEVEN)).sizes(), (1, 22))
        self.assertEqual(Either(self.ELEVEN, self.ELEVEN).sizes(), (22, 1))


class AskersOwnTest(unittest.TestCase):
    def events(self):
        one, other = Rose(0, 2, 0, 1), Stayed(0, 1, (0, 3))
        return [
            one, other, Over(0, 1, 2), Under(1, 2, 2), Paced(0, 2, (0, None)), Turned(1), Both(one, other),
            Either(one, other), Nay(one), Nay(Both(other, one)),
        ]

    def test_the_same_lists_at_each_asking(self):
        for event in self.events():
            self.assertEqual(event.ways(), event.ways())
            self.assertEqual(event.breaks(), event.breaks())

    def test_told_lists_are_the_askers(self):
        for event in self.events():
            before = repr((event.ways(), event.breaks()))
            for told in (event.ways(), event.breaks()):
                for claim in told:
                    claim.append(("at", 0, (7, 7)))
                told.append([])
            self.assertEqual(repr((event.ways(), event.breaks())), before)

    def test_what_was_told_stays(self):
        for event in self.events():
            told = (event.ways(), event.breaks())
            before = repr(told)
            event.ways().clear()
            event.held([0, 1, 2])
            Nay(event).breaks()
            self.assertEqual(repr(told), before)

    def test_a_course_that_is_handed_in_stays(self):
        course = [0, 1, 0]
        for event in self.events():
            event.held(course)
        self.assertEqual(course, [0, 1, 0])


if __name__ == "__main__":
    unittest.main()
