"""Drawings: the places of a board as texts, one for each turn."""

from gaze.errors import NoStretch
from gaze.places import places
from gaze.stretches import holds


def sign_of(some, number):
    return "#" if any([holds(one, number) for one in some]) else "."


def row_of(turn, some, low, high):
    signs = [sign_of(some, number) for number in range(low, high + 1)]
    return str(turn).rjust(3) + " " + "".join(signs)


def drawing(board, low, high):
    if low > high:
        raise NoStretch("low is above high")
    return [row_of(turn, places(board, turn), low, high) for turn in range(board.turns)]
