"""Trees of asks, which tell by the answers where one began."""

from probewell.errors import Unfit
from probewell.rounds import found_in_rounds
from probewell.statesets import all_states, need_few_states, need_set, sets_of
from probewell.tables import asks_of
from probewell.walks import need_state


def tree_of(machine, states):
    need_few_states(machine)
    need_set(machine, states)
    return tree_of_set(machine, states)


def tree(machine):
    need_few_states(machine)
    return tree_of_set(machine, all_states(machine))


def stuck(machine):
    need_few_states(machine)
    told = least_asks(machine)
    return [list(states) for states in sorted(sets_of(len(machine))) if states not in told]


def began(found, machine, state):
    need_state(machine, state)
    while isinstance(found, tuple):
        step = machine[state][found[0]]
        found = dict(found[1]).get(step[0])
        if found is None:
            raise Unfit("the machine gives an answer that has no branch")
        state = step[1]
    return found


def depth(found):
    many = 0
    inner = inner_among([found])
    while inner:
        many += 1
        inner = inner_among(branches_of(inner))
    return many


def inner_among(trees):
    # Each once, for a tree may stand at very many places of another and yet be one thing.
    found = []
    for one in trees:
        if isinstance(one, tuple) and one not in found:
            found.append(one)
    return found


def branches_of(trees):
    found = []
    for ask, branches in trees:
        found.extend([branch for answer, branch in branches])
    return found


def tree_of_set(machine, states):
    asks = least_asks(machine)
    if tuple(states) not in asks:
        return None
    return grown(machine, asks, dict(zip(states, states)))


def grown(machine, asks, begun):
    # For each state in which one may stand now, begun tells where one began.
    if len(begun) == 1:
        return list(begun.values())[0]
    ask = asks[tuple(sorted(begun))]
    parts = parted_by(machine, begun, ask)
    branches = []
    for answer in sorted(parts):
        branches.append((answer, grown(machine, asks, parts[answer])))
    return (ask, branches)


def least_asks(machine):
    # For each set that is told, the least ask by which its depth is attained; a set of one state needs none.
    outset = {}
    behind = {}
    for states in sets_of(len(machine)):
        if len(states) == 1:
            outset[states] = None
        else:
            behind[states] = sets_behind(machine, states)
    return found_in_rounds(outset, list(behind), lambda states, found: least_telling(behind[states], found))


def least_telling(behind, found):
    for ask, parts in enumerate(behind):
        if parts is not None and all([part in found for part in parts]):
            return ask
    return None


def sets_behind(machine, states):
    found = []
    for ask in range(asks_of(machine)):
        parts = parted_by(machine, dict(zip(states, states)), ask)
        found.append(None if parts is None else [tuple(sorted(part)) for part in parts.values()])
    return found


def parted_by(machine, begun, ask):
    found = {}
    for state, start in begun.items():
        step = machine[state][ask]
        part = found.setdefault(step[0], {})
        # Spoiled: from here on nothing tells the two apart any more.
        if step[1] in part:
            return None
        part[step[1]] = start
    return found
