"""Hearing: a board listens to an eye of a sort."""

from gaze.errors import NoTelling


def listen(board, eye, sort, words):
    if not board.has_eye(eye) or len(words) > board.turns:
        raise NoTelling("the board has no such eye or fewer turns than there are raw words")
    # The sort makes all words, or refuses, ahead of the first deed: so what is refused changes nothing.
    told = sort.stretches(words)
    for turn, word in enumerate(told):
        if word is not None:
            board.tell(eye, turn, word[0], word[1])
        elif board.word(eye, turn) is not None:
            board.hush(eye, turn)
