"""Gathering probes, which lead several states to one."""

from probewell.joining import joins_by_pair
from probewell.reach import ways_from
from probewell.statesets import all_states, need_few_states, need_set
from probewell.tables import asks_of
from probewell.walks import walked


def together(machine):
    need_few_states(machine)
    return first_gathering(machine, all_states(machine))


def together_of(machine, states):
    need_few_states(machine)
    need_set(machine, states)
    return first_gathering(machine, states)


def by_pairs(machine):
    joined = joins_by_pair(machine)
    probe = []
    marked = all_states(machine)
    while len(marked) > 1:
        behind = joined.get((marked[0], marked[1]))
        # Each turn leaves fewer states marked, but never joins a never pair: where there is one, this comes at last.
        if behind is None:
            return None
        probe.extend(behind)
        marked = led(machine, marked, behind)
    return probe


def first_gathering(machine, states):
    found = ways_from(tuple(states), lambda held: led_by_asks(machine, held))
    # The sets lie in the order of their ways.
    for held in found:
        if len(held) == 1:
            return found[held]
    return None


def led_by_asks(machine, states):
    return [tuple(led(machine, states, [ask])) for ask in range(asks_of(machine))]


def led(machine, states, probe):
    return sorted(set([walked(machine, state, probe)[1] for state in states]))
