"""Places: where the thing may have been at a turn."""

from gaze.chains import tube
from gaze.claims import paces
from gaze.errors import NoClaim
from gaze.stretches import gathered, hull
from gaze.worlds import choices, marks_without


def tubes(board):
    # Just as many eyes are put aside as allowed: with fewer aside there is no course that isn't there with more.
    steps = paces(board, [])
    asides = [some for some in choices(board.eyes) if len(some) == board.most]
    found = [tube(steps, marks_without(board, some)) for some in asides]
    return [one for one in found if one is not None]


def places(board, turn):
    if not board.has_turn(turn):
        raise NoClaim("the board has no such turn")
    return gathered([one[turn] for one in tubes(board)])


def strips(board):
    found = tubes(board)
    return [hull([one[turn] for one in found]) for turn in range(board.turns)]
