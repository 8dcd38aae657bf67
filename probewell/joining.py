"""States joined: by which first probes two of them are led to one and the same state."""

from probewell.rounds import found_in_rounds


def joins(machine):
    found = joins_by_pair(machine)
    return [joins_of(found, state, len(machine)) for state in range(len(machine))]


def never(machine):
    found = joins_by_pair(machine)
    return [pair for pair in pairs_of(len(machine)) if pair not in found]


def joins_of(found, state, states):
    probes = [found.get(pair_of(state, other)) for other in range(states)]
    # A pair stands at two places of what is told, and each place holds a list of its own.
    return [None if probe is None else list(probe) for probe in probes]


def joins_by_pair(machine):
    outset = {}
    for state in range(len(machine)):
        outset[(state, state)] = []
    return found_in_rounds(outset, pairs_of(len(machine)), lambda pair, found: first_joining(machine, pair, found))


def first_joining(machine, pair, found):
    # The pair needs more asks than all that is found: so no ask that leads to a pair found is one too many, and the
    # least of them begins the first probe.
    beside = machine[pair[1]]
    for ask, step in enumerate(machine[pair[0]]):
        after = pair_of(step[1], beside[ask][1])
        if after in found:
            return [ask] + found[after]
    return None


def pairs_of(states):
    found = []
    for one in range(states):
        found.extend([(one, other) for other in range(one + 1, states)])
    return found


def pair_of(one, other):
    return (one, other) if one < other else (other, one)
