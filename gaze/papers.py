"""Papers: what a board answers about a claim, a course or a paper that leaves no place for one."""

from gaze.chains import course_in
from gaze.claims import paces, wanted
from gaze.worlds import clashes, groups_of, marks_without


def without(pairs, eye):
    return [pair for pair in pairs if eye != pair[0][0] and eye != pair[1][0]]


def eyes_of(pair):
    # None stands for what is wanted, which cannot be put aside.
    return sorted(set([spot[0] for spot in pair if spot[0] is not None]))


def put_aside(pairs, most):
    # Eyes, at most so many, without which no pair is left; None where so few cannot be enough.
    if len(pairs) == 0:
        return []
    if most == 0:
        return None
    for eye in eyes_of(pairs[0]):
        others = put_aside(without(pairs, eye), most - 1)
        if others is not None:
            return [eye] + others
    return None


def branch(pairs, eye, most):
    return None if eye is None else paper(without(pairs, eye), most - 1)


def paper(pairs, most):
    # Asked only where put_aside has found nothing: so there is a pair as long as no more eyes than allowed are aside.
    if most < 0:
        return ("full",)
    one = pairs[0][0]
    other = pairs[0][1]
    first = branch(pairs, one[0], most)
    second = None if one[0] == other[0] else branch(pairs, other[0], most)
    return ("clash", one, other, first, second)


def ask(board, claim):
    steps = paces(board, claim)
    goals = wanted(board, claim)
    if None in steps:
        return ("never", ("step", steps.index(None)))
    if None in goals:
        return ("never", ("at", goals.index(None)))
    marks = list(enumerate(goals))
    pairs = clashes(steps, [(None, marks)] + groups_of(board))
    aside = put_aside(pairs, board.most)
    if aside is None:
        return ("never", paper(pairs, board.most))
    return ("may", course_in(steps, marks + marks_without(board, aside)))
