"""A desk: it keeps a board and rules, is told rows, and answers each with a text."""

from gaze.boards import Board
from gaze.drawings import drawing
from gaze.errors import NoBoard, NoName, NoRow
from gaze.places import places
from gaze.rules import read
from gaze.stretches import hull
from gaze.verdicts import lying, reason, verdict
from gaze.wording import end_of, is_formed, shown_ends

# What follows each word: N a whole number, E an end, W a word, T a text.
FORMS = {
    "board": "NNNNN",
    "tell": "NNEE",
    "hush": "NN",
    "rule": "WT",
    "drop": "W",
    "strip": "N",
    "ask": "W",
    "why": "W",
    "false": "N",
    "draw": "NN",
}
NEED_NO_BOARD = ("board", "rule", "drop")
NEED_A_RULE = ("drop", "ask", "why")
SMALL_LETTERS = "abcdefghijklmnopqrstuvwxyz"
LETTERS_AT_MOST = 8


def cut(row):
    words = row.split(" ")
    if words[0] == "rule" and len(words) > 2:
        # The blanks of a rule are the rule's own.
        return words[:2] + [" ".join(words[2:])]
    return words


def check_row(words):
    if words[0] not in FORMS or len(words) != len(FORMS[words[0]]) + 1:
        raise NoRow("there is no such row")
    if not all([is_formed(form, word) for form, word in zip(FORMS[words[0]], words[1:])]):
        raise NoRow("a word is no number as it stands in this row")


def parts_of(words):
    return [end_of(word) if form in "NE" else word for form, word in zip(FORMS[words[0]], words[1:])]


def is_name(word):
    return 1 <= len(word) <= LETTERS_AT_MOST and all([sign in SMALL_LETTERS for sign in word])


def spots_text(spots):
    return " ".join([f"{eye}.{turn}" for eye, turn in spots])


def strip_text(board, turn):
    one = hull(places(board, turn))
    return "none" if one is None else " ".join(shown_ends(one))


class Desk:
    def __init__(self):
        self.board = None
        self.rules = {}

    def say(self, row):
        if not isinstance(row, str):
            raise NoRow("a row is a text")
        words = cut(row)
        check_row(words)
        if self.board is None and words[0] not in NEED_NO_BOARD:
            raise NoBoard("no board stands yet")
        self.check_names(words)
        parts = parts_of(words)
        if words[0] in ("board", "tell", "hush", "rule", "drop"):
            self.carry_out(words[0], parts)
            return "ok"
        return self.answer(words[0], parts)

    def check_names(self, words):
        if words[0] == "rule" and not is_name(words[1]):
            raise NoName("a name is one to eight small letters")
        # What is no name is the name of no rule.
        if words[0] in NEED_A_RULE and words[1] not in self.rules:
            raise NoName("no rule has this name")

    def carry_out(self, word, parts):
        if word == "board":
            self.board = Board(parts[0], parts[1], parts[2], parts[3], parts[4])
        elif word == "tell":
            self.board.tell(parts[0], parts[1], parts[2], parts[3])
        elif word == "hush":
            self.board.hush(parts[0], parts[1])
        elif word == "rule":
            self.rules[parts[0]] = read(parts[1])
        else:
            self.rules.pop(parts[0])

    def answer(self, word, parts):
        if word == "strip":
            return strip_text(self.board, parts[0])
        if word == "ask":
            return verdict(self.board, self.rules[parts[0]])[0]
        if word == "why":
            return spots_text(reason(self.board, self.rules[parts[0]]))
        if word == "false":
            return verdict(self.board, lying(self.board, parts[0]))[0]
        return "\n".join(drawing(self.board, parts[0], parts[1]))
