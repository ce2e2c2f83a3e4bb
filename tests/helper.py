"""What several tests need: numbers that look mixed but are the same at each run, and a reckoning apart from gaze."""

from fractions import Fraction

GREAT = 10 ** 59 + 7
# As great as a number that is handed in may be: three hundred figures.
GREATEST = 10 ** 300 - 1


class Draws:
    """Mixed numbers, the same ones at each run."""

    def __init__(self, seed=1):
        self.seed = seed

    def number(self, least, greatest):
        self.seed = self.seed * 48271 % 2147483647
        return least + self.seed % (greatest - least + 1)

    def one_of(self, some):
        return some[self.number(0, len(some) - 1)]

    def numbers(self, length, least, greatest):
        return [self.number(least, greatest) for _ in range(length)]

    def rising(self, length, start, longest_step):
        some = [start]
        while len(some) < length:
            some.append(some[-1] + self.number(1, longest_step))
        return some


def fraction_of(one):
    return Fraction(one[0], one[1])


def ratio_of(fraction):
    return (fraction.numerator, fraction.denominator)


def is_ratio(one):
    """Lowest terms, bottom from 1 on, both parts whole numbers."""
    return type(one) is tuple and [type(part) for part in one] == [int, int] and ratio_of(fraction_of(one)) == one


def is_held(one, number):
    return (one[0] is None or one[0] <= number) and (one[1] is None or number <= one[1])


def walks(steps, low, high):
    """All courses with such steps, both ends of each whole numbers, that begin from low to high."""
    courses = [[start] for start in range(low, high + 1)]
    for lo, hi in steps:
        courses = [course + [course[-1] + by] for course in courses for by in range(lo, hi + 1)]
    return courses


def own_steps(board):
    return [(-board.down, board.up)] * (board.turns - 1)


def steps_of(course):
    return [after - ahead for ahead, after in zip(course, course[1:])]


def lying_eyes(board, course):
    told = board.tellings()
    return sorted({eye for eye, turn, word in told if not is_held(word, course[turn])})


def is_fit(board, course):
    return (
        len(course) == board.turns
        and all(-board.down <= step <= board.up for step in steps_of(course))
        and len(lying_eyes(board, course)) <= board.most
    )


def fitting(board, low, high):
    """All courses that fit the board and begin from low to high."""
    return [course for course in walks(own_steps(board), low, high) if is_fit(board, course)]


def is_met(course, claim):
    steps = steps_of(course)
    return all(is_held(one, course[turn] if kind == "at" else steps[turn]) for kind, turn, one in claim)


def all_hold(some):
    """What all the stretches hold, reckoned apart from gaze.stretches; None where that is nothing."""
    los = [lo for lo, hi in some if lo is not None]
    his = [hi for lo, hi in some if hi is not None]
    if los and his and max(los) > min(his):
        return None
    return (max(los, default=None), min(his, default=None))


def paces_by_hand(board, claim):
    own = own_steps(board)
    return [
        all_hold([own[turn]] + [one for kind, at, one in claim if (kind, at) == ("step", turn)])
        for turn in range(board.turns - 1)
    ]


def wanted_by_hand(board, claim):
    return [
        all_hold([one for kind, at, one in claim if (kind, at) == ("at", turn)])
        for turn in range(board.turns)
    ]


def is_clash(steps, one, other):
    """Point 22, step by step."""
    (turn, (lo, hi)), (other_turn, (other_lo, other_hi)) = one, other
    if hi is None or other_lo is None:
        return False
    for step in range(turn, other_turn):
        hi += steps[step][1]
    for step in range(other_turn, turn):
        hi -= steps[step][0]
    return other_lo > hi


def mark_of(board, wants, spot, aside):
    """The mark that a spot of a paper stands for, or None where it stands for none."""
    if not isinstance(spot, tuple) or len(spot) != 2 or type(spot[1]) is not int:
        return None
    eye, turn = spot
    if not 0 <= turn < board.turns:
        return None
    if eye is None:
        return None if wants[turn] is None else (turn, wants[turn])
    if type(eye) is not int or not 0 <= eye < board.eyes or eye in aside:
        return None
    return None if board.word(eye, turn) is None else (turn, board.word(eye, turn))


def refutes(board, claim, paper, aside=()):
    """Whether a paper refutes the claim beside the eyes put aside: point 27, form by form."""
    steps, wants = paces_by_hand(board, claim), wanted_by_hand(board, claim)
    if not isinstance(paper, tuple) or not paper:
        return False
    if paper[0] == "step" and len(paper) == 2:
        return type(paper[1]) is int and 0 <= paper[1] < len(steps) and steps[paper[1]] is None
    if paper[0] == "at" and len(paper) == 2:
        return type(paper[1]) is int and 0 <= paper[1] < len(wants) and wants[paper[1]] is None
    if paper == ("full",):
        return len(aside) > board.most
    if paper[0] != "clash" or len(paper) != 5 or None in steps:
        return False
    form, one, other, first, second = paper
    marks = [mark_of(board, wants, spot, aside) for spot in (one, other)]
    if None in marks or not is_clash(steps, marks[0], marks[1]):
        return False
    if one[0] is None:
        first_holds = first is None
    else:
        first_holds = refutes(board, claim, first, aside + (one[0],))
    if other[0] is None or other[0] == one[0]:
        return first_holds and second is None
    return first_holds and refutes(board, claim, second, aside + (other[0],))


def some_stretch(draws, least, greatest):
    """A stretch with ends from least to greatest, now and then open."""
    lo, hi = sorted(draws.numbers(2, least, greatest))
    form = draws.number(0, 6)
    if form == 0:
        return (None, hi)
    if form == 1:
        return (lo, None)
    if form == 2:
        return (lo, lo)
    return (lo, hi)


def some_board(draws, make, eyes=3, turns=3, words=6, ends=3, moves=2):
    """A mixed board, by make (the class Board): at most so many eyes, turns, words, and moves up and down."""
    eyes, turns = draws.number(1, eyes), draws.number(1, turns)
    board = make(eyes, turns, draws.number(0, moves), draws.number(0, moves), draws.number(0, eyes))
    for _ in range(draws.number(0, words)):
        lo, hi = some_stretch(draws, -ends, ends)
        board.tell(draws.number(0, eyes - 1), draws.number(0, turns - 1), lo, hi)
    return board


def some_claim(draws, board, parts=3, ends=3):
    """A mixed claim of the board, of at most so many parts."""
    claim = []
    for _ in range(draws.number(0, parts)):
        kind = draws.one_of(["at", "at", "step"]) if board.turns > 1 else "at"
        turn = draws.number(0, board.turns - (2 if kind == "step" else 1))
        claim.append((kind, turn, some_stretch(draws, -ends, ends)))
    return claim


def gathered_by_hand(numbers, low, high):
    """Numbers from low to high as the gathered list of stretches; low stands for all below it, high for all above."""
    stretches = []
    for number in sorted(numbers):
        if stretches and stretches[-1][1] == number - 1:
            stretches[-1] = (stretches[-1][0], number)
        else:
            stretches.append((number, number))
    return [(None if lo == low else lo, None if hi == high else hi) for lo, hi in stretches]


def board_of(board, *words):
    """The board, on which the words (eye, turn, lo, hi) are told."""
    for eye, turn, lo, hi in words:
        board.tell(eye, turn, lo, hi)
    return board
