"""Rules: events as texts."""

from gaze.errors import NoEvent, NoRule
from gaze.events import Both, Either, Nay, Over, Paced, Rose, Stayed, Turned, Under
from gaze.stretches import is_crossed
from gaze.wording import end_of, is_formed

WORDS_AT_MOST = 60
# What follows each word: N a whole number, E an end, R a rule.
FORMS = {
    "over": "NNN",
    "under": "NNN",
    "stay": "NNEE",
    "rose": "NNNN",
    "pace": "NNEE",
    "turn": "N",
    "both": "RR",
    "either": "RR",
    "not": "R",
}


def end_at(words, place, form):
    if place >= len(words):
        raise NoRule("the rule ends too early")
    if not is_formed(form, words[place]):
        raise NoRule("this is no number as it stands in a rule")
    return end_of(words[place])


def tree_at(words, place):
    # A pair: the rule that begins at this place, as its first word and its parts, and the place behind it.
    if place >= len(words) or words[place] not in FORMS:
        raise NoRule("no rule begins here")
    parts = []
    behind = place + 1
    for form in FORMS[words[place]]:
        if form == "R":
            inner = tree_at(words, behind)
            parts.append(inner[0])
            behind = inner[1]
        else:
            parts.append(end_at(words, behind, form))
            behind = behind + 1
    return ((words[place], parts), behind)


def ends_as_stretch(lo, hi):
    if is_crossed(lo, hi):
        raise NoEvent("the lo of the stretch is above its hi")
    return (lo, hi)


def event_of_numbers(word, parts):
    if word == "over":
        return Over(parts[0], parts[1], parts[2])
    if word == "under":
        return Under(parts[0], parts[1], parts[2])
    if word == "stay":
        return Stayed(parts[0], parts[1], ends_as_stretch(parts[2], parts[3]))
    if word == "rose":
        return Rose(parts[0], parts[1], parts[2], parts[3])
    if word == "pace":
        return Paced(parts[0], parts[1], ends_as_stretch(parts[2], parts[3]))
    return Turned(parts[0])


def event_of(tree):
    word = tree[0]
    parts = tree[1]
    if word == "both":
        return Both(event_of(parts[0]), event_of(parts[1]))
    if word == "either":
        return Either(event_of(parts[0]), event_of(parts[1]))
    if word == "not":
        return Nay(event_of(parts[0]))
    return event_of_numbers(word, parts)


def read(text):
    words = text.split(" ")
    if len(words) > WORDS_AT_MOST:
        raise NoRule("a rule has at most sixty words")
    # All words are looked at ahead of the first event, for a text that is no rule is that whatever else is wrong.
    whole = tree_at(words, 0)
    if whole[1] != len(words):
        raise NoRule("there are words behind the rule")
    return event_of(whole[0])


def shown(event):
    return event.text()
