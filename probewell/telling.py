"""States told apart by the first probes that they answer unlike."""

from probewell.walks import need_state


def apart(machine):
    levels = levels_of(machine)
    return [apart_from(machine, levels, state) for state in range(len(machine))]


def told_apart(machine, one, other):
    need_state(machine, one)
    need_state(machine, other)
    return first_unlike(machine, levels_of(machine), one, other)


def apart_from(machine, levels, state):
    return [first_unlike(machine, levels, state, other) for other in range(len(machine))]


def levels_of(machine):
    # The level d numbers the states, equally where they answer each probe of at most d asks alike. Where a level
    # parts no more states than the one ahead of it, no later one does; so the last level kept tells who is alike.
    levels = [[0 for row in machine]]
    finer = finer_level(machine, levels[-1])
    while max(finer) > max(levels[-1]):
        levels.append(finer)
        finer = finer_level(machine, finer)
    return levels


def finer_level(machine, level):
    numbers = {}
    finer = []
    for row in machine:
        seen = tuple(renumbered(row, level))
        finer.append(numbers.setdefault(seen, len(numbers)))
    return finer


def renumbered(row, numbers):
    return [(answer, numbers[after]) for answer, after in row]


def first_unlike(machine, levels, one, other):
    # As many asks are needed as there are levels at which the two are alike; None where they are so at all of them.
    many = [level[one] == level[other] for level in levels].count(True)
    if many == len(levels):
        return None
    probe = []
    for level in reversed(levels[:many]):
        # The least ask behind which the asks that are left still suffice begins the first probe.
        ask = first_parting(renumbered(machine[one], level), renumbered(machine[other], level))
        probe.append(ask)
        one = machine[one][ask][1]
        other = machine[other][ask][1]
    return probe


def first_parting(seen, against):
    ask = 0
    while seen[ask] == against[ask]:
        ask += 1
    return ask
