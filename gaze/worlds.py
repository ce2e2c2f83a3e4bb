"""Worlds: which eyes lie in a course, and which of them cannot all be right."""

from gaze.chains import ceilings, course_in, crossing
from gaze.claims import paces
from gaze.stretches import holds


def marks_of(board, eye):
    return [(turn, word) for teller, turn, word in board.tellings() if teller == eye]


def marks_without(board, some):
    return [(turn, word) for teller, turn, word in board.tellings() if teller not in some]


def is_lying(board, eye, course):
    return not all([holds(word, course[turn]) for turn, word in marks_of(board, eye)])


def liars(board, course):
    return [eye for eye in range(board.eyes) if is_lying(board, eye, course)]


def keeps(steps, course):
    return all([holds(step, after - ahead) for step, ahead, after in zip(steps, course, course[1:])])


def fits(board, course):
    return keeps(paces(board, []), course) and len(liars(board, course)) <= board.most


def groups_of(board):
    return [(eye, marks_of(board, eye)) for eye in range(board.eyes)]


def clashes(steps, groups):
    # Groups are pairs (name, marks). For each two of them, in each order, at most one clash is told, as a pair of
    # spots (name, turn): more of them would say nothing new of who may be right beside whom.
    found = []
    for name, marks in groups:
        tops = ceilings(steps, marks)
        for beside, others in groups:
            pair = crossing(tops, others)
            if pair is not None:
                found.append(((name, marks[pair[0]][0]), (beside, others[pair[1]][0])))
    return found


def quarrels(board):
    found = clashes(paces(board, []), groups_of(board))
    pairs = [(min(one[0], other[0]), max(one[0], other[0])) for one, other in found]
    return sorted(set(pairs))


def choices(eyes):
    # All lists of some of the eyes, each rising.
    some = [[]]
    for eye in range(eyes):
        some = some + [one + [eye] for one in some]
    return some


def is_enough(pairs, some):
    return all([one in some or other in some for one, other in pairs])


def is_lean(pairs, some):
    return not any([is_enough(pairs, [eye for eye in some if eye != spared]) for spared in some])


def suspects(board):
    pairs = quarrels(board)
    few = [some for some in choices(board.eyes) if len(some) <= board.most]
    return sorted([some for some in few if is_enough(pairs, some) and is_lean(pairs, some)])


def least(board):
    some = min(suspects(board.allowing(board.eyes)), key=len)
    return (len(some), course_in(paces(board, []), marks_without(board, some)))
