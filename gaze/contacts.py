"""Contacts: looks of 0 and 1 that settle to a state, and the states that two sills make of a course."""

from gaze.errors import NoSills


def settled(looks, many, before):
    state = before
    last = None
    row = 0
    for look in looks:
        row = row + 1 if look == last else 1
        last = look
        if row >= many:
            state = look
    return state


def check_sills(low, high):
    if low >= high:
        raise NoSills("the low sill is not less than the high one")


def state_at(number, low, high, before):
    if number >= high:
        return 1
    if number <= low:
        return 0
    return before


def sills(course, low, high):
    check_sills(low, high)
    states = []
    state = None
    for number in course:
        state = state_at(number, low, high, state)
        states.append(state)
    return states


def by_state(state, low, high):
    if state is None:
        return None
    if state == 1:
        return (low + 1, None)
    return (None, high - 1)
