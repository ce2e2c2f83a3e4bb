"""Gauges: straight lines from knot to knot, which lead from raws forth to values and back again."""

from gaze.errors import NoGauge, OffGauge
from gaze.ratios import minus, plus, ratio, times, under


def is_rising(numbers):
    return all([one < later for one, later in zip(numbers, numbers[1:])])


def on_line(start, end, one):
    slope = ratio(end[1] - start[1], end[0] - start[0])
    return plus((start[1], 1), times(minus(one, (start[0], 1)), slope))


def lies_between(start, end, one):
    return not under(one, (start[0], 1)) and not under((end[0], 1), one)


def led(pairs, one):
    for start, end in zip(pairs, pairs[1:]):
        # At an inner knot two lines would do: both go through it.
        if lies_between(start, end, one):
            return on_line(start, end, one)
    raise OffGauge("this lies below the first knot of the gauge or above its last one")


class Gauge:
    def __init__(self, knots):
        raws = [knot[0] for knot in knots]
        values = [knot[1] for knot in knots]
        if len(knots) < 2 or not is_rising(raws) or not is_rising(values):
            raise NoGauge("a gauge needs two knots or more, rising in raw and in value")
        self.knots = list(knots)

    def forth(self, raw):
        return led(self.knots, raw)

    def back(self, value):
        # Values rise as raws do, so the same lines are walked with the sides exchanged.
        return led([(knot[1], knot[0]) for knot in self.knots], value)
