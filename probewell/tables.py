"""Machines as they are handed in: lists of rows of tuples (answer, next)."""

from probewell.errors import NoMachine
from probewell.wholes import is_answer, is_below

MOST_STATES = 30
MOST_ASKS = 5


def is_machine(thing):
    if not is_list_up_to(thing, MOST_STATES):
        return False
    for row in thing:
        if not is_row(row, len(thing)) or len(row) != len(thing[0]):
            return False
    return True


def checked(thing):
    if not is_machine(thing):
        raise NoMachine("this is no machine")
    # Each row is copied by itself, for one list may stand at several places of what is handed in.
    return [copied_row(row) for row in thing]


def asks_of(machine):
    return len(machine[0])


def is_list_up_to(thing, most):
    return isinstance(thing, list) and 1 <= len(thing) <= most


def is_row(thing, states):
    return is_list_up_to(thing, MOST_ASKS) and all([is_step(step, states) for step in thing])


def is_step(thing, states):
    return isinstance(thing, tuple) and len(thing) == 2 and is_answer(thing[0]) and is_below(thing[1], states)


def copied_row(row):
    return [(answer, after) for answer, after in row]
