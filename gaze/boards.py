"""Boards: what the eyes told, turn by turn, and how the thing may move."""

from gaze.errors import NoBoard, NoTelling
from gaze.stretches import is_crossed

EYES_AT_MOST = 7
TURNS_AT_MOST = 12


class Board:
    def __init__(self, eyes, turns, up, down, most):
        if not 1 <= eyes <= EYES_AT_MOST or not 1 <= turns <= TURNS_AT_MOST:
            raise NoBoard("a board has 1 to 7 eyes and 1 to 12 turns")
        if up < 0 or down < 0:
            raise NoBoard("the thing moves up and down by 0 or more")
        if not 0 <= most <= eyes:
            raise NoBoard("from 0 to all eyes may be wrong")
        self.eyes = eyes
        self.turns = turns
        self.up = up
        self.down = down
        self.most = most
        self.told = {}

    def has_eye(self, eye):
        return 0 <= eye < self.eyes

    def has_turn(self, turn):
        return 0 <= turn < self.turns

    def tell(self, eye, turn, lo, hi):
        self.check_spot(eye, turn)
        if is_crossed(lo, hi):
            raise NoTelling("the lo of a word is above its hi")
        self.told[(eye, turn)] = (lo, hi)

    def hush(self, eye, turn):
        self.check_word(eye, turn)
        self.told.pop((eye, turn))

    def word(self, eye, turn):
        self.check_spot(eye, turn)
        return self.told.get((eye, turn))

    def tellings(self):
        return [(spot[0], spot[1], self.told[spot]) for spot in sorted(self.told)]

    def twin(self):
        return self.allowing(self.most)

    def keeping(self, spots):
        board = Board(self.eyes, self.turns, self.up, self.down, self.most)
        for spot in spots:
            self.check_word(spot[0], spot[1])
            board.told[spot] = self.told[spot]
        return board

    def allowing(self, most):
        board = Board(self.eyes, self.turns, self.up, self.down, most)
        board.told = dict(self.told)
        return board

    def check_spot(self, eye, turn):
        if not self.has_eye(eye) or not self.has_turn(turn):
            raise NoTelling("the board has no such eye or no such turn")

    def check_word(self, eye, turn):
        # At a spot that the board hasn't no word ever stands, so this is asked of any spot.
        if (eye, turn) not in self.told:
            raise NoTelling("no word stands at this spot")
