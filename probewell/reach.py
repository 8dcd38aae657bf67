"""Which states are reached from the state 0, and by which first probes."""


def ways(machine):
    found = ways_by_state(machine)
    return [found.get(state) for state in range(len(machine))]


def reached(machine):
    return list(ways_by_state(machine))


def ways_by_state(machine):
    return ways_from(0, lambda state: [step[1] for step in machine[state]])


def ways_from(start, led_to):
    # Ways are found in their order, for each is an earlier way with an ask behind: so the keys lie in this order too.
    found = {start: []}
    newest = [start]
    while newest:
        newer = []
        for place in newest:
            for ask, after in enumerate(led_to(place)):
                if after not in found:
                    found[after] = found[place] + [ask]
                    newer.append(after)
        newest = newer
    return found
