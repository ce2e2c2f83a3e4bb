"""Votes: where several stretches agree."""

from gaze.stretches import gathered, holds, is_crossed


def cells(some):
    # The stretches are cut where one of them begins or has just ended: within a cell all numbers are held alike.
    begins = [one[0] for one in some if one[0] is not None]
    ends = [one[1] + 1 for one in some if one[1] is not None]
    cuts = sorted(begins + ends)
    los = [None] + cuts
    his = [cut - 1 for cut in cuts] + [None]
    # A cut that stands twice leaves a cell without numbers between.
    return [(lo, hi) for lo, hi in zip(los, his) if not is_crossed(lo, hi)]


def number_in(cell):
    if cell[0] is not None:
        return cell[0]
    if cell[1] is not None:
        return cell[1]
    return 0


def votes_for(some, cell):
    number = number_in(cell)
    return len([one for one in some if holds(one, number)])


def agree(some, need):
    return gathered([cell for cell in cells(some) if votes_for(some, cell) >= need])


def most_agree(some):
    most = max([votes_for(some, cell) for cell in cells(some)])
    return (most, agree(some, most))
