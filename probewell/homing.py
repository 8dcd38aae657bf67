"""Where one came out, told by the answers to a probe."""

from probewell.telling import first_unlike, levels_of
from probewell.walks import need_probe, walked


def ends(machine, probe):
    need_probe(machine, probe)
    return ends_from(machine, list(range(len(machine))), probe)


def homed(machine, probe, answers):
    for told, states in ends(machine, probe):
        if told == answers:
            return states
    return []


def tells_end(machine, probe):
    groups = [states for answers, states in ends(machine, probe)]
    return unlike_pair(groups, levels_of(machine)[-1]) is None


def home(machine):
    levels = levels_of(machine)
    probe = []
    groups = [list(range(len(machine)))]
    pair = unlike_pair(groups, levels[-1])
    # Each turn parts some group, and alike states are never parted: so there are fewer turns than classes, each of
    # fewer asks than classes.
    while pair is not None:
        behind = first_unlike(machine, levels, pair[0], pair[1])
        probe.extend(behind)
        groups = parted(machine, groups, behind)
        pair = unlike_pair(groups, levels[-1])
    return probe


def ends_from(machine, states, probe):
    found = {}
    for state in states:
        told = walked(machine, state, probe)
        beside = found.setdefault(tuple(told[0]), {})
        beside[told[1]] = True
    return [(list(answers), sorted(found[answers])) for answers in sorted(found)]


def parted(machine, groups, probe):
    found = []
    for states in groups:
        found.extend([group for answers, group in ends_from(machine, states, probe)])
    return found


def unlike_pair(groups, finest):
    for states in groups:
        for state in states:
            if finest[state] != finest[states[0]]:
                return (states[0], state)
    return None
