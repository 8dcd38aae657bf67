"""Probes, and the walks of machines by them."""

from probewell.errors import NoProbe, NoState
from probewell.tables import asks_of
from probewell.wholes import is_below

MOST_ASKED = 13000


def is_probe(thing, many):
    # The length goes first, so that a list of any length is looked through no further than need be.
    return isinstance(thing, list) and len(thing) <= MOST_ASKED and all([is_below(ask, many) for ask in thing])


def before(one, other):
    return rank(one) < rank(other)


def rank(probe):
    return (len(probe), probe)


def walk(machine, state, probe):
    need_state(machine, state)
    need_probe(machine, probe)
    return walked(machine, state, probe)


def walked(machine, state, probe):
    answers = []
    for ask in probe:
        step = machine[state][ask]
        answers.append(step[0])
        state = step[1]
    return (answers, state)


def run(machine, probe):
    return walk(machine, 0, probe)[0]


def need_state(machine, thing):
    if not is_below(thing, len(machine)):
        raise NoState("this is no state of the machine")


def need_probe(machine, thing):
    if not is_probe(thing, asks_of(machine)):
        raise NoProbe("this is no probe for the machine")
