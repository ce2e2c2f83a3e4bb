"""Foes: what eyes that lie together can make of a board."""

from gaze.errors import NoTelling
from gaze.papers import ask


def lie(board, some, claim):
    # An eye without words lies in no course: so only the others are counted.
    others = board.keeping([(eye, turn) for eye, turn, word in board.tellings() if eye not in some])
    answer = ask(others, claim)
    for eye in some:
        if not board.has_eye(eye):
            raise NoTelling("the board has no such eye")
    if answer[0] == "never":
        return None
    lied = board.twin()
    for eye in some:
        for turn, number in enumerate(answer[1]):
            lied.tell(eye, turn, number, number)
    return lied
