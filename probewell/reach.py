"""Which states are reached from the state 0, and by which first probes."""


def ways(machine):
    found = ways_by_state(machine)
    return [found.get(state) for state in range(len(machine))]


def reached(machine):
    return list(ways_by_state(machine))


def ways_by_state(machine):
    # Ways are found in their order, for each is an earlier way with an ask behind: so the keys lie in this order too.
    found = {0: []}
    newest = [0]
    while newest:
        newer = []
        for state in newest:
            for ask, step in enumerate(machine[state]):
                if step[1] not in found:
                    found[step[1]] = found[state] + [ask]
                    newer.append(step[1])
        newest = newer
    return found
