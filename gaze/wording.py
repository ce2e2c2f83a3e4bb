"""Wording: how whole numbers and the ends of stretches are written in rules and rows."""

FIGURES = "0123456789"
FIGURES_AT_MOST = 60
OPEN_END = "*"


def is_figures(word):
    return 1 <= len(word) <= FIGURES_AT_MOST and all([sign in FIGURES for sign in word])


def is_number(word):
    if word == "0":
        return True
    # Each number is written in one way alone, so that what is read is shown as the same text.
    figures = word[1:] if word.startswith("-") else word
    return is_figures(figures) and not figures.startswith("0")


def is_end(word):
    return word == OPEN_END or is_number(word)


def is_formed(form, word):
    # N is a whole number, E an end of a stretch; what else stands in a form is any word.
    if form == "N":
        return is_number(word)
    return form != "E" or is_end(word)


def end_of(word):
    return None if word == OPEN_END else int(word)


def shown_end(end):
    return OPEN_END if end is None else str(end)


def shown_ends(one):
    return [shown_end(one[0]), shown_end(one[1])]
