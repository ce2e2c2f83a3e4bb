"""Verdicts: what surely happened, what surely didn't, and why."""

from gaze.errors import NoAlarm, NoClaim, NoEvent, NoTelling
from gaze.events import Lying, Rose
from gaze.papers import ask
from gaze.worlds import marks_of


def seek(board, claims):
    # A course that fits and meets one of the claims; or where there is none, papers, one for each claim.
    papers = []
    for claim in claims:
        answer = ask(board, claim)
        if answer[0] == "may":
            return answer
        papers.append(answer[1])
    return ("never", papers)


def verdict(board, event):
    if not board.has_turn(event.far()):
        raise NoClaim("the event speaks farther than the board's last turn")
    fitting = ask(board, [])
    if fitting[0] == "never":
        return ("none", fitting[1])
    without = seek(board, event.breaks())
    if without[0] == "never":
        return ("yes", without[1])
    having = seek(board, event.ways())
    if having[0] == "never":
        return ("no", having[1])
    return ("open", having[1], without[1])


def lying(board, eye):
    if not board.has_eye(eye):
        raise NoTelling("the board has no such eye")
    return Lying(marks_of(board, eye))


def reason(board, event):
    if verdict(board, event)[0] != "yes":
        raise NoAlarm("the verdict isn't yes")
    spots = [(eye, turn) for eye, turn, word in board.tellings()]
    kept = spots
    for spot in spots:
        # A course fits still with fewer words, so the verdict hangs on the breaks alone. And with fewer words fewer
        # breaks are refuted: a spot that can't be spared now can't be spared later.
        fewer = [other for other in kept if other != spot]
        if seek(board.keeping(fewer), event.breaks())[0] == "never":
            kept = fewer
    return kept


def is_sure(board, pair, low, high):
    return verdict(board, Rose(pair[0], pair[1], low, high))[0] == "yes"


def lies_within(one, other):
    return one != other and other[0] <= one[0] and one[1] <= other[1]


def windows(board, low, high):
    if low >= high:
        raise NoEvent("low is less than high")
    pairs = []
    for first in range(board.turns):
        pairs.extend([(first, last) for last in range(first + 1, board.turns)])
    sure = [pair for pair in pairs if is_sure(board, pair, low, high)]
    return [pair for pair in sure if not any([lies_within(other, pair) for other in sure])]
