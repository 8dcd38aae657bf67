"""Classes of alike states, and the least machine that is made of them."""

from probewell.reach import reached
from probewell.telling import levels_of, renumbered


def classes(machine):
    # Levels number the states from the least one on, so the classes come in the order of their least states.
    finest = levels_of(machine)[-1]
    found = [[] for number in range(max(finest) + 1)]
    for state, number in enumerate(finest):
        found[number].append(state)
    return found


def least(machine):
    finest = levels_of(machine)[-1]
    firsts = first_of_classes(reached(machine), finest)
    places = {}
    for place, state in enumerate(firsts):
        places[finest[state]] = place
    # A class that isn't reached has no place; nothing that is kept leads to it.
    numbers = [places.get(number) for number in finest]
    return [renumbered(machine[state], numbers) for state in firsts]


def first_of_classes(states, finest):
    found = {}
    for state in states:
        found.setdefault(finest[state], state)
    return list(found.values())
