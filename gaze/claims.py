"""Claims: lists of parts (kind, turn, stretch) about the numbers and the steps of a course."""

from gaze.errors import NoClaim
from gaze.stretches import common, holds


def number_at(course, kind, turn):
    if kind == "step":
        return course[turn + 1] - course[turn]
    return course[turn]


def meets(course, claim):
    return all([holds(part[2], number_at(course, part[0], part[1])) for part in claim])


def has_part(board, kind, turn):
    if kind == "step":
        return board.has_turn(turn) and board.has_turn(turn + 1)
    return kind == "at" and board.has_turn(turn)


def check_claim(board, claim):
    for part in claim:
        if not has_part(board, part[0], part[1]):
            raise NoClaim("a part is of no known kind, or of a turn or a step that the board hasn't")


def stretches_of(claim, kind, turn):
    return [part[2] for part in claim if part[0] == kind and part[1] == turn]


def paces(board, claim):
    check_claim(board, claim)
    own = [(-board.down, board.up)]
    return [common(own + stretches_of(claim, "step", turn)) for turn in range(board.turns - 1)]


def wanted(board, claim):
    check_claim(board, claim)
    return [common(stretches_of(claim, "at", turn)) for turn in range(board.turns)]
