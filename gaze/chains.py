"""Chains: courses whose steps are bounded, and the marks (turn, stretch) that hold them or clash."""

from gaze.stretches import common, meet
from gaze.votes import number_in


def rise(steps, one, other):
    if one <= other:
        return sum([step[1] for step in steps[one:other]])
    return -sum([step[0] for step in steps[other:one]])


def clash(steps, one, other):
    hi = one[1][1]
    lo = other[1][0]
    return hi is not None and lo is not None and lo - hi > rise(steps, one[0], other[0])


def moved(one, step):
    lo = None if one[0] is None else one[0] + step[0]
    hi = None if one[1] is None else one[1] + step[1]
    return (lo, hi)


def narrowed(boxes, steps):
    # Each box is cut down to what is reached through all boxes ahead of it; None where nothing is left of one.
    kept = []
    for turn, box in enumerate(boxes):
        left = box
        if turn > 0 and box is not None:
            left = meet(box, moved(kept[-1], steps[turn - 1]))
        if left is None:
            return None
        kept.append(left)
    return kept


def stretches_at(marks, turn):
    return [mark[1] for mark in marks if mark[0] == turn]


def tube(steps, marks):
    forth = narrowed([common(stretches_at(marks, turn)) for turn in range(len(steps) + 1)], steps)
    if forth is None:
        return None
    # Walked from the end each step is turned round. Whatever is reached from ahead was reached through all boxes,
    # so this time something is left of each box.
    backward = [(-step[1], -step[0]) for step in reversed(steps)]
    return narrowed(forth[::-1], backward)[::-1]


def course_in(steps, marks):
    boxes = tube(steps, marks)
    if boxes is None:
        return None
    course = [number_in(boxes[0])]
    for step, box in zip(steps, boxes[1:]):
        course.append(number_in(meet(box, moved((course[-1], course[-1]), step))))
    return course


def lesser(one, other):
    if one is None or other is None:
        return other if one is None else one
    return min(one, other)


def lifted(one, by):
    return None if one is None else (one[0] + by, one[1])


def ceilings(steps, marks):
    # For each turn the least number that no course may lie above because of one of the marks' his, as a pair with the
    # number of that mark, or None. A walk forth and one back are enough, for a way there and back again lifts it only.
    tops = [None for turn in range(len(steps) + 1)]
    for number, mark in enumerate(marks):
        if mark[1][1] is not None:
            tops[mark[0]] = lesser(tops[mark[0]], (mark[1][1], number))
    for turn in range(len(steps)):
        tops[turn + 1] = lesser(tops[turn + 1], lifted(tops[turn], steps[turn][1]))
    for turn in range(len(steps) - 1, -1, -1):
        tops[turn] = lesser(tops[turn], lifted(tops[turn + 1], -steps[turn][0]))
    return tops


def crossing(tops, marks):
    # The numbers of two marks that clash: the one that makes a ceiling, and one of these that lies above it.
    for number, mark in enumerate(marks):
        top = tops[mark[0]]
        if top is not None and mark[1][0] is not None and mark[1][0] > top[0]:
            return (top[1], number)
    return None


def clashing(steps, marks):
    return crossing(ceilings(steps, marks), marks)
