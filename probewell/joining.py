"""States joined: by which first probes two of them are led to one and the same state."""


def joins(machine):
    found = joins_by_pair(machine)
    return [joins_of(found, state, len(machine)) for state in range(len(machine))]


def never(machine):
    found = joins_by_pair(machine)
    return [pair for pair in pairs_of(len(machine)) if pair not in found]


def joins_of(found, state, states):
    probes = [found.get(pair_of(state, other)) for other in range(states)]
    # A pair stands at two places of what is told, and each place holds a list of its own.
    return [None if probe is None else list(probe) for probe in probes]


def joins_by_pair(machine):
    found = {}
    for state in range(len(machine)):
        found[(state, state)] = []
    left = pairs_of(len(machine))
    newer = joined_next(machine, left, found)
    while newer:
        found.update(newer)
        left = [pair for pair in left if pair not in newer]
        newer = joined_next(machine, left, found)
    return found


def joined_next(machine, left, found):
    # What is left needs more asks than all that is found: so no ask that leads to a pair found is one too many, and
    # the least of them begins the first probe.
    newer = {}
    for pair in left:
        probe = first_joining(machine[pair[0]], machine[pair[1]], found)
        if probe is not None:
            newer[pair] = probe
    return newer


def first_joining(row, beside, found):
    for ask, step in enumerate(row):
        after = pair_of(step[1], beside[ask][1])
        if after in found:
            return [ask] + found[after]
    return None


def pairs_of(states):
    found = []
    for one in range(states):
        found.extend([(one, other) for other in range(one + 1, states)])
    return found


def pair_of(one, other):
    return (one, other) if one < other else (other, one)
