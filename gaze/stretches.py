"""Stretches: tuples (lo, hi) that hold the whole numbers from lo to hi; None is an end beyond all numbers."""

from gaze.errors import NoStretch


def is_crossed(lo, hi):
    return lo is not None and hi is not None and lo > hi


def stretch(lo, hi):
    if is_crossed(lo, hi):
        raise NoStretch("the lo of a stretch is above its hi")
    return (lo, hi)


def holds(one, number):
    return not is_crossed(one[0], number) and not is_crossed(number, one[1])


def meet(one, other):
    lo = max([end for end in (one[0], other[0]) if end is not None], default=None)
    hi = min([end for end in (one[1], other[1]) if end is not None], default=None)
    if is_crossed(lo, hi):
        return None
    return (lo, hi)


def common(some):
    whole = (None, None)
    for one in some:
        whole = meet(whole, one)
        if whole is None:
            return None
    return whole


def widened(one, by):
    lo = None if one[0] is None else one[0] - by
    hi = None if one[1] is None else one[1] + by
    return (lo, hi)


def hull(some):
    if len(some) == 0:
        return None
    los = [one[0] for one in some]
    his = [one[1] for one in some]
    lo = None if None in los else min(los)
    hi = None if None in his else max(his)
    return (lo, hi)


def by_lo(one):
    # As a lo, None lies below all numbers, but Python does not compare it with them.
    if one[0] is None:
        return (0, 0)
    return (1, one[0])


def leaves_gap(one, later):
    # later's lo is not below one's. Neighbours such as 2 and 3 have no number between them, hence the 1.
    return one[1] is not None and later[0] is not None and later[0] > one[1] + 1


def gathered(some):
    rising = []
    for one in sorted(some, key=by_lo):
        if len(rising) == 0 or leaves_gap(rising[-1], one):
            rising.append(one)
        else:
            rising[-1] = hull([rising[-1], one])
    return rising
