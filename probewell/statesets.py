"""Sets of states: what is one, and of which machines all of them are looked through."""

from probewell.errors import NoState, TooMuch
from probewell.tables import is_list_up_to
from probewell.wholes import is_below

MOST_FOR_SETS = 7


def need_few_states(machine):
    if len(machine) > MOST_FOR_SETS:
        raise TooMuch("the machine has more than 7 states")


def need_set(machine, thing):
    if not is_set(thing, len(machine)):
        raise NoState("this is no set of states of the machine")


def is_set(thing, states):
    # Things of any kind may be handed in, and only whole numbers can be put in order.
    return (is_list_up_to(thing, states) and all([is_below(state, states) for state in thing])
            and thing == sorted(set(thing)))


def all_states(machine):
    return list(range(len(machine)))


def sets_of(states):
    found = [()]
    for state in range(states):
        found = found + [held + (state,) for held in found]
    return found[1:]
