"""Sorts of eyes: what an eye makes of its raw words, each word widened by the eye's slack."""

from gaze.contacts import by_state, check_sills, settled
from gaze.errors import OffGauge
from gaze.ratios import floored, raised, times
from gaze.stretches import widened


class Eye:
    def __init__(self, drift, since):
        self.drift = drift
        self.since = since

    def slack(self, turn):
        return raised(times(self.drift, (abs(turn - self.since), 1)))

    def slackened(self, words):
        told = []
        for turn, word in enumerate(words):
            told.append(None if word is None else widened(word, self.slack(turn)))
        return told


class Plain(Eye):
    def stretches(self, words):
        return self.slackened(words)


def forth_or_none(gauge, raw):
    try:
        return gauge.forth((raw, 1))
    except OffGauge:
        return None


class Gauged(Eye):
    def __init__(self, drift, since, gauge, error):
        Eye.__init__(self, drift, since)
        self.gauge = gauge
        self.error = error

    def seen(self, raw):
        # The gauge itself refuses a raw that is off it, even one that the error would lead back onto it.
        self.gauge.forth((raw, 1))
        least = forth_or_none(self.gauge, raw - self.error)
        greatest = forth_or_none(self.gauge, raw + self.error)
        lo = None if least is None else floored(least)
        hi = None if greatest is None else raised(greatest)
        return (lo, hi)

    def stretches(self, words):
        return self.slackened([None if raw is None else self.seen(raw) for raw in words])


class Contact(Eye):
    def __init__(self, drift, since, many, low, high):
        check_sills(low, high)
        Eye.__init__(self, drift, since)
        self.many = many
        self.low = low
        self.high = high

    def stretches(self, words):
        told = []
        state = None
        for looks in words:
            if looks is None:
                told.append(None)
            else:
                state = settled(looks, self.many, state)
                told.append(by_state(state, self.low, self.high))
        return self.slackened(told)
