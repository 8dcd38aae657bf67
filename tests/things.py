"""What the tests hand in: things of wrong kinds, machines of many forms; and how what is told is looked through."""

import itertools
import random
from decimal import Decimal
from fractions import Fraction

LONGEST = int("9" * 60)


class Bare:
    pass


class LikeNumber:
    """Serves as a number everywhere, and is none."""

    def __index__(self):
        return 0

    def __int__(self):
        return 0

    def __eq__(self, other):
        return True

    def __lt__(self, other):
        return True

    __le__ = __gt__ = __ge__ = __lt__


class LikeList:
    """Serves as a list of one, and is none."""

    def __init__(self, inner):
        self.inner = inner

    def __len__(self):
        return 1

    def __getitem__(self, place):
        return [self.inner][place]

    def __eq__(self, other):
        return True


def bare_things():
    return [
        None, True, False, 0.0, 1.0, -2.5, float("nan"), float("inf"), 1j, Decimal(1), Fraction(1),
        "", "0", "[[(0, 0)]]", b"", b"0", bytearray(b"0"), range(1), {}, {0: 0}, {0: [(0, 0)]}, set(), {0},
        frozenset(), iter([0]), (place for place in [0]), len, int, bool, list, object(), Bare, Bare(),
        LikeNumber(), LikeList(0), LikeList([(0, 0)]), Ellipsis, NotImplemented, ValueError("0"), lambda: 0,
    ]


def number_things():
    return [0, 1, -1, 10 ** 60, 10 ** 6000]


def list_things():
    return [[], [0], [[]], [[(0, 0)]]]


def tuple_things():
    return [(), (0,), (0, 0), ([(0, 0)],)]


def nested_in_itself():
    thing = []
    thing.append(thing)
    return thing


def no_numbers_below(bound):
    """Things of every kind that are no whole numbers from 0 to below the bound."""
    return bare_things() + list_things() + tuple_things() + [-1, -bound, bound, bound + 1, 10 ** 6000, -(10 ** 6000)]


def no_probes(many):
    """Things of every kind that are no probes for so many asks."""
    found = bare_things() + tuple_things() + number_things() + [range(many), "0", (0, 0), {0: 0}, nested_in_itself()]
    for thing in no_numbers_below(many):
        found += [[thing], [0, thing], [thing, 0], [0] * 12999 + [thing]]
    return found + [[0] * 13001, [many - 1] * 13001, [0] * 20000, [many] * 13001]


def no_sets(states):
    """Things of every kind that are no sets of a machine with so many states."""
    every = list(range(states))
    found = bare_things() + tuple_things() + number_things() + [tuple(every), set(every), "0", nested_in_itself()]
    found += [[], [[]], [[0]], [()], [0, 0], every + every, every + [states], [-1] + every, [every], [0] * 20000]
    for thing in no_numbers_below(states):
        found += [[thing], [0, thing], [thing, states - 1], every[:-1] + [thing], [thing] + every[1:]]
    if states > 1:
        found += [[1, 0], every[::-1], every[:-2] + every[-1:] * 2, every[1:] + [0]]
    return found


def label(thing):
    # Python refuses to write the longest numbers, and the longest lists are of no use in a report.
    try:
        return repr(thing)[:200]
    except ValueError:
        return "a thing with a long number"


def even_machine(states, asks):
    return [[(ask - state, (state + ask) % states) for ask in range(asks)] for state in range(states)]


def chain(states, asks=1):
    """The last ask alone leads on, and the last state alone answers it otherwise; the other asks lead back to 0."""
    found = []
    for state in range(states):
        last = state == states - 1
        found.append([(0, 0)] * (asks - 1) + [(1 if last else 0, state if last else state + 1)])
    return found


def late_joining(states):
    """The ask 0 leads round; the ask 1 leads the last state to the first one, and leaves the others."""
    last = states - 1
    return [[(0, (state + 1) % states), (0, 0 if state == last else state)] for state in range(states)]


def rings_apart(states, asks):
    """Each ask leads round, by another number of states each: no probe joins any two."""
    return [[(LONGEST, (state + ask + 1) % states) for ask in range(asks)] for state in range(states)]


def drawn_machine(seed, states, asks, answers):
    draw = random.Random(seed)
    return [[(draw.choice(answers), draw.randrange(states)) for ask in range(asks)] for state in range(states)]


def all_machines(states, asks, answers):
    steps = list(itertools.product(answers, range(states)))
    for rows in itertools.product(itertools.product(steps, repeat=asks), repeat=states):
        yield [list(row) for row in rows]


def all_sets(machine):
    """All sets of states of the machine, the smaller ones first."""
    states = range(len(machine))
    return [list(held) for many in range(1, len(machine) + 1) for held in itertools.combinations(states, many)]


def small_machines():
    """All of the least ones, and some that are drawn: small enough to be asked every probe that matters."""
    found = list(all_machines(1, 2, [0, 1])) + list(all_machines(2, 1, [0, 1])) + list(all_machines(2, 2, [0, 1]))
    found += list(all_machines(3, 1, [0, 1]))
    for seed in range(120):
        found.append(drawn_machine(seed, 3 + seed % 3, 1 + seed % 3, [0, 1] if seed % 2 else [0, 0, 0, -5]))
    return found


def large_machines():
    """Of 30 states, or of 5 asks, or both."""
    found = [even_machine(30, 5), even_machine(30, 1), even_machine(1, 5), chain(30), chain(30, 5)]
    found.append([[(7, (state * 7 + ask) % 30) for ask in range(5)] for state in range(30)])
    for seed in range(6):
        found.append(drawn_machine(seed, 30, 5, [0, 1]))
        found.append(drawn_machine(seed, 30, 2, [0] * 15 + [1]))
        found.append(drawn_machine(seed, 30, 1, [LONGEST, -LONGEST]))
    return found


def probes_up_to(length, asks):
    """All probes of at most so many asks, in order."""
    for many in range(length + 1):
        for probe in itertools.product(range(asks), repeat=many):
            yield list(probe)


def walked(machine, state, probe):
    """A walk, written down once more for the tests."""
    answers = []
    for ask in probe:
        answers.append(machine[state][ask][0])
        state = machine[state][ask][1]
    return answers, state


def sights(machine):
    """For each state its answers to all the probes that can tell states apart."""
    probes = list(probes_up_to(len(machine) - 1, len(machine[0])))
    return [[walked(machine, state, probe)[0] for probe in probes] for state in range(len(machine))]


def told_by_all_probes(machine, one, other):
    for probe in probes_up_to(len(machine) - 1, len(machine[0])):
        if walked(machine, one, probe)[0] != walked(machine, other, probe)[0]:
            return probe
    return None


def told_by_pairs(machine, one, other):
    """Forward from the two states, by pairs, in the order of the probes that lead to them."""
    met = {(one, other): []}
    waiting = [(one, other)]
    while waiting:
        pair = waiting.pop(0)
        steps = list(zip(machine[pair[0]], machine[pair[1]]))
        for ask, (step, against) in enumerate(steps):
            if step[0] != against[0]:
                return met[pair] + [ask]
        for ask, (step, against) in enumerate(steps):
            after = (step[1], against[1])
            if after not in met:
                met[after] = met[pair] + [ask]
                waiting.append(after)
    return None


def pairs_met(one, other):
    """The pairs of states to which a probe leads two machines, or None where some probe is answered unlike."""
    met = [(0, 0)]
    for state, against in met:
        for step, beside in zip(one[state], other[against]):
            if step[0] != beside[0]:
                return None
            if (step[1], beside[1]) not in met:
                met.append((step[1], beside[1]))
    return met


def joined_by_pairs(machine, one, other):
    """Forward from the two states, by pairs, in the order of the probes that lead to them."""
    met = {(one, other): []}
    waiting = [(one, other)]
    for pair in waiting:
        if pair[0] == pair[1]:
            return met[pair]
        for ask in range(len(machine[0])):
            after = (machine[pair[0]][ask][1], machine[pair[1]][ask][1])
            if after not in met:
                met[after] = met[pair] + [ask]
                waiting.append(after)
    return None


def moved(machine, order):
    """The same machine, the state that is order[k] called k; the first one must stay."""
    return [[(answer, order.index(after)) for answer, after in machine[state]] for state in order]


def doubled(machine, draw):
    """Each state stands twice, and it is left to chance to which of the two a step leads."""
    many = len(machine)
    return [[(answer, after + many * draw.randrange(2)) for answer, after in row] for row in machine + machine]


def lists_in(thing):
    """Every list within a thing, as often as it is held there."""
    if not isinstance(thing, (list, tuple)):
        return []
    found = [thing] if isinstance(thing, list) else []
    for part in thing:
        found += lists_in(part)
    return found


def shares_lists(told, handed):
    """Whether what is told holds a list twice, or one that was handed in."""
    lists = lists_in(told)
    numbers = {id(one) for one in lists}
    return len(numbers) < len(lists) or bool(numbers & {id(one) for one in lists_in(handed)})
