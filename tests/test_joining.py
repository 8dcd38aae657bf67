import copy
import unittest

from probewell.joining import joins, never
from things import (LONGEST, chain, drawn_machine, even_machine, joined_by_pairs, large_machines, late_joining,
                    probes_up_to, rings_apart, shares_lists, small_machines, walked)

SOME_JOINED = [[(0, 1), (0, 0)], [(0, 1), (0, 2)], [(0, 2), (0, 1)]]


def turned(machine):
    """The same machine, its asks the other way round."""
    return [row[::-1] for row in machine]


def joins_by_all_probes(machine):
    many = len(machine)
    found = [[None] * many for state in range(many)]
    for probe in probes_up_to(many * (many - 1) // 2, len(machine[0])):
        landed = [walked(machine, state, probe)[1] for state in range(many)]
        for one in range(many):
            for other in range(many):
                if landed[one] == landed[other] and found[one][other] is None:
                    found[one][other] = probe
    return found


def first_of(probes):
    return min((probe for probe in probes if probe is not None), key=lambda probe: (len(probe), probe), default=None)


def never_by(table):
    many = len(table)
    return [(one, other) for one in range(many) for other in range(one + 1, many) if table[one][other] is None]


def few_enough(machines):
    """Those small enough to be asked every probe that may join."""
    return [machine for machine in machines if len(machine[0]) ** (len(machine) * (len(machine) - 1) // 2) <= 1200]


class Joins(unittest.TestCase):
    def test_small_machines_by_all_probes(self):
        for machine in few_enough(small_machines()):
            self.assertEqual(joins(machine), joins_by_all_probes(machine), machine)

    def test_machines_of_several_asks_by_pairs(self):
        for machine in small_machines()[-120:] + [drawn_machine(seed, 8, 3, [0]) for seed in range(15)]:
            states = range(len(machine))
            self.assertEqual(joins(machine), [[joined_by_pairs(machine, one, other) for other in states]
                                              for one in states])

    def test_large_machines(self):
        # Each probe joins, and is the first of those that an ask and the probe of the pair behind it make.
        for machine in large_machines() + [late_joining(30), turned(late_joining(30)), rings_apart(30, 5)]:
            told = joins(machine)
            many = len(machine)
            self.assertEqual([len(row) for row in told], [many] * many)
            for one in range(many):
                for other in range(many):
                    if one == other:
                        self.assertEqual(told[one][other], [])
                        continue
                    led = [(machine[one][ask][1], machine[other][ask][1]) for ask in range(len(machine[0]))]
                    behind = [told[pair[0]][pair[1]] for pair in led]
                    self.assertEqual(told[one][other], first_of([
                        None if probe is None else [ask] + probe for ask, probe in enumerate(behind)]))
                    if told[one][other] is not None:
                        self.assertEqual(walked(machine, one, told[one][other])[1],
                                         walked(machine, other, told[one][other])[1])

    def test_large_machines_by_pairs(self):
        for machine in [drawn_machine(3, 30, 5, [0, 1]), chain(30, 5), late_joining(30), rings_apart(30, 2)]:
            told = joins(machine)
            for one, other in [(0, 1), (0, 29), (29, 0), (7, 22), (28, 29), (15, 14)]:
                self.assertEqual(told[one][other], joined_by_pairs(machine, one, other))

    def test_an_ordinary_machine(self):
        self.assertEqual(joins(SOME_JOINED), [[[], [0], [1, 0]], [[0], [], None], [[1, 0], None, []]])
        self.assertEqual(never(SOME_JOINED), [(1, 2)])

    def test_a_state_and_itself_are_joined_by_the_empty_probe(self):
        for machine in large_machines() + [rings_apart(30, 5), [[(0, 0)]], [[(0, 0)] * 5]]:
            told = joins(machine)
            self.assertEqual([told[state][state] for state in range(len(machine))], [[]] * len(machine))

    def test_the_least_ask_of_several(self):
        machine = [[(0, 0), (0, 2), (0, 1)], [(0, 1), (0, 2), (0, 1)], [(0, 2), (0, 2), (0, 2)]]
        self.assertEqual(joins(machine)[0][1], [1])

    def test_a_short_probe_goes_before_one_of_less_asks(self):
        machine = [[(0, 2), (0, 0)], [(0, 3), (0, 0)], [(0, 2), (0, 2)], [(0, 2), (0, 3)]]
        self.assertEqual(joins(machine)[0][1], [1])

    def test_of_two_probes_as_long_the_first_unlike_ask_tells(self):
        machine = [[(0, 2), (0, 4)], [(0, 3), (0, 5)], [(0, 2), (0, 2)], [(0, 3), (0, 2)], [(0, 4), (0, 4)],
                   [(0, 4), (0, 5)]]
        self.assertEqual(joins(machine)[0][1], [0, 1])
        self.assertEqual(joins(machine)[1][0], [0, 1])

    def test_answers_do_not_matter(self):
        for seed in range(10):
            machine = drawn_machine(seed, 12, 2, [LONGEST, -LONGEST, 0])
            silent = [[(0, after) for answer, after in row] for row in machine]
            self.assertEqual(joins(machine), joins(silent))
            self.assertEqual(never(machine), never(silent))

    def test_alike_states_are_not_joined_by_being_alike(self):
        self.assertEqual(joins([[(5, 0)], [(5, 1)]]), [[[], None], [None, []]])

    def test_states_that_no_probe_leads_to_are_joined_too(self):
        self.assertEqual(joins([[(0, 0)], [(1, 0)]]), [[[], [0]], [[0], []]])

    def test_both_ways_round_by_equal_probes(self):
        for machine in large_machines():
            told = joins(machine)
            for one in range(len(machine)):
                self.assertEqual(told[one], [told[other][one] for other in range(len(machine))])

    def test_the_longest_probes(self):
        for states in (2, 3, 10, 30):
            told = joins(late_joining(states))
            self.assertEqual(max(len(probe) for row in told for probe in row), states * (states - 1) // 2)

    def test_probes_are_no_longer_than_promised(self):
        for machine in small_machines() + large_machines():
            many = len(machine)
            for row in joins(machine):
                self.assertTrue(all(probe is None or len(probe) <= many * (many - 1) // 2 for probe in row))

    def test_a_chain(self):
        told = joins(chain(30))
        for one in range(30):
            self.assertEqual(told[one], [[] if one == other else [0] * (29 - min(one, other)) for other in range(30)])

    def test_one_state(self):
        for asks in (1, 5):
            self.assertEqual(joins(even_machine(1, asks)), [[[]]])

    def test_states_that_no_probe_joins(self):
        for asks in (1, 5):
            expected = [[[] if one == other else None for other in range(30)] for one in range(30)]
            self.assertEqual(joins(rings_apart(30, asks)), expected)


class Never(unittest.TestCase):
    def test_small_machines_by_all_probes(self):
        for machine in few_enough(small_machines()):
            self.assertEqual(never(machine), never_by(joins_by_all_probes(machine)), machine)

    def test_large_machines(self):
        for machine in large_machines() + [late_joining(30), rings_apart(30, 1), rings_apart(30, 5)]:
            told = never(machine)
            self.assertEqual(told, never_by(joins(machine)))
            self.assertEqual(told, sorted(set(told)))

    def test_none_where_all_are_joined(self):
        for machine in [late_joining(30), chain(30), chain(30, 5), [[(0, 0)]], [[(0, 0)] * 5], [[(0, 7)] * 5] * 30]:
            self.assertEqual(never(machine), [])

    def test_all_where_none_are_joined(self):
        every = [(one, other) for one in range(30) for other in range(one + 1, 30)]
        for asks in (1, 5):
            self.assertEqual(never(rings_apart(30, asks)), every)

    def test_they_are_tuples_in_a_list_the_less_state_first(self):
        told = never([[(0, 2)], [(0, 1)], [(0, 0)], [(0, 1)]])
        self.assertEqual(told, [(0, 1), (0, 2), (0, 3), (1, 2), (2, 3)])
        self.assertEqual([type(told)] + [type(pair) for pair in told], [list] + [tuple] * 5)

    def test_some_of_the_states(self):
        self.assertEqual(never([[(0, 0)], [(0, 0)], [(0, 2)], [(0, 2)]]), [(0, 2), (0, 3), (1, 2), (1, 3)])


class WhatIsTold(unittest.TestCase):
    def test_lists_are_new_and_nothing_is_changed(self):
        for machine in [SOME_JOINED, chain(30, 5), rings_apart(30, 5), [[(0, 0)]] * 5, late_joining(12)]:
            kept = copy.deepcopy(machine)
            told = [joins(machine), never(machine), joins(machine), never(machine)]
            self.assertFalse(shares_lists(told, machine))
            self.assertEqual(machine, kept)
            told[0][0][0].append(3)
            told[0][-1].append(3)
            told[1].append(3)
            self.assertEqual([joins(machine), never(machine)], told[2:])

    def test_what_is_done_afterwards_changes_nothing(self):
        machine = [[(0, 0)], [(1, 0)]]
        told = joins(machine), never(machine)
        machine[1][0] = (1, 1)
        machine.pop()
        self.assertEqual(told, ([[[], [0]], [[0], []]], []))

    def test_machines_somewhat_beyond_the_bounds(self):
        machine = late_joining(36)
        told = joins(machine)
        self.assertEqual(max(len(probe) for row in told for probe in row), 36 * 35 // 2)
        self.assertEqual(told[3][20], joined_by_pairs(machine, 3, 20))
        self.assertEqual(never(rings_apart(35, 7))[:2], [(0, 1), (0, 2)])


if __name__ == "__main__":
    unittest.main()
