"""Events: what a course has or hasn't, told as claims that it meets."""

from gaze.claims import meets
from gaze.errors import NoEvent, TooMany
from gaze.wording import shown_ends

LAST_TURN = 11
SIZE_AT_MOST = 100


def outside(one):
    below = [] if one[0] is None else [(None, one[0] - 1)]
    above = [] if one[1] is None else [(one[1] + 1, None)]
    return below + above


def failures(claim):
    # A course meets one of these just where it doesn't meet the claim: one for each end that a part has.
    found = []
    for part in claim:
        found.extend([[(part[0], part[1], one)] for one in outside(part[2])])
    return found


def joined(some, others):
    found = []
    for one in some:
        found.extend([one + other for other in others])
    return found


def parts_at(first, last, one):
    return [("at", turn, one) for turn in range(first, last + 1)]


class Event:
    def held(self, course):
        return any([meets(course, way) for way in self.ways()])

    def sizes(self):
        return (len(self.ways()), len(self.breaks()))


class Spanned(Event):
    def __init__(self, first, last):
        if not 0 <= first <= last <= LAST_TURN:
            raise NoEvent("turns are from 0 to 11, the first not above the last")
        self.first = first
        self.last = last

    def far(self):
        return self.last

    def all_at(self, one):
        return parts_at(self.first, self.last, one)

    def spelled(self, word, more):
        return " ".join([word, str(self.first), str(self.last)] + more)


class Stayed(Spanned):
    def __init__(self, first, last, stretch):
        Spanned.__init__(self, first, last)
        self.stretch = stretch

    def ways(self):
        return [self.all_at(self.stretch)]

    def breaks(self):
        return failures(self.all_at(self.stretch))

    def text(self):
        return self.spelled("stay", shown_ends(self.stretch))


class Over(Spanned):
    def __init__(self, first, last, sill):
        Spanned.__init__(self, first, last)
        self.sill = sill

    def ways(self):
        return failures(self.all_at((None, self.sill - 1)))

    def breaks(self):
        return [self.all_at((None, self.sill - 1))]

    def text(self):
        return self.spelled("over", [str(self.sill)])


class Under(Spanned):
    def __init__(self, first, last, sill):
        Spanned.__init__(self, first, last)
        self.sill = sill

    def ways(self):
        return failures(self.all_at((self.sill + 1, None)))

    def breaks(self):
        return [self.all_at((self.sill + 1, None))]

    def text(self):
        return self.spelled("under", [str(self.sill)])


class Rose(Spanned):
    def __init__(self, first, last, low, high):
        Spanned.__init__(self, first, last)
        if low >= high:
            raise NoEvent("low is less than high")
        self.low = low
        self.high = high

    def ways(self):
        found = []
        for turn in range(self.first, self.last):
            lows = [("at", turn, (None, self.low))]
            found.extend([lows + [high] for high in parts_at(turn + 1, self.last, (self.high, None))])
        return found

    def breaks(self):
        # Where it hasn't risen there is a turn, the first low one or else the last of all, ahead of which it is never
        # low and behind which it is never high.
        return [
            parts_at(self.first, turn - 1, (self.low + 1, None)) + parts_at(turn + 1, self.last, (None, self.high - 1))
            for turn in range(self.first, self.last + 1)
        ]

    def text(self):
        return self.spelled("rose", [str(self.low), str(self.high)])


class Paced(Spanned):
    def __init__(self, first, last, stretch):
        Spanned.__init__(self, first, last)
        self.stretch = stretch

    def all_steps(self):
        return [("step", turn, self.stretch) for turn in range(self.first, self.last)]

    def ways(self):
        return [self.all_steps()]

    def breaks(self):
        return failures(self.all_steps())

    def text(self):
        return self.spelled("pace", shown_ends(self.stretch))


class Turned(Event):
    def __init__(self, turn):
        # There is a step to this turn and one from it.
        if not 0 < turn < LAST_TURN:
            raise NoEvent("the turn of a Turned is from 1 to 10")
        self.turn = turn

    def far(self):
        return self.turn + 1

    def both_steps(self):
        return [("step", self.turn - 1, (1, None)), ("step", self.turn, (None, -1))]

    def ways(self):
        return [self.both_steps()]

    def breaks(self):
        return failures(self.both_steps())

    def text(self):
        return "turn " + str(self.turn)


class Paired(Event):
    def __init__(self, one, other):
        self.one = one
        self.other = other
        if max(self.sizes()) > SIZE_AT_MOST:
            raise TooMany("there are more than 100 ways or breaks")

    def far(self):
        return max(self.one.far(), self.other.far())


class Both(Paired):
    def ways(self):
        return joined(self.one.ways(), self.other.ways())

    def breaks(self):
        return self.one.breaks() + self.other.breaks()

    def sizes(self):
        # Reckoned, not counted: the lists of a pair that is refused are never made.
        one = self.one.sizes()
        other = self.other.sizes()
        return (one[0] * other[0], one[1] + other[1])

    def text(self):
        return " ".join(["both", self.one.text(), self.other.text()])


class Either(Paired):
    def ways(self):
        return self.one.ways() + self.other.ways()

    def breaks(self):
        return joined(self.one.breaks(), self.other.breaks())

    def sizes(self):
        one = self.one.sizes()
        other = self.other.sizes()
        return (one[0] + other[0], one[1] * other[1])

    def text(self):
        return " ".join(["either", self.one.text(), self.other.text()])


class Nay(Event):
    def __init__(self, one):
        self.one = one

    def far(self):
        return self.one.far()

    def ways(self):
        return self.one.breaks()

    def breaks(self):
        return self.one.ways()

    def sizes(self):
        one = self.one.sizes()
        return (one[1], one[0])

    def text(self):
        return "not " + self.one.text()


class Lying(Event):
    def __init__(self, marks):
        self.marks = marks

    def far(self):
        return max([mark[0] for mark in self.marks], default=0)

    def all_right(self):
        return [("at", turn, word) for turn, word in self.marks]

    def ways(self):
        return failures(self.all_right())

    def breaks(self):
        return [self.all_right()]

    def text(self):
        # No rule tells of an eye, so this is none.
        return "lying"
