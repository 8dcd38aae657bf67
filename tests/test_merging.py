import copy
import random
import unittest

from probewell.merging import classes, least
from probewell.reach import ways
from probewell.tables import is_machine
from probewell.telling import apart
from things import (chain, doubled, drawn_machine, even_machine, large_machines, moved, pairs_met, probes_up_to,
                    shares_lists, sights, small_machines, walked)

LONGEST = int("9" * 60)


def classes_by_all_probes(machine):
    seen = sights(machine)
    found = []
    for state in range(len(machine)):
        if seen.index(seen[state]) == state:
            found.append([other for other in range(len(machine)) if seen[other] == seen[state]])
    return found


def least_by_all_probes(machine):
    seen = sights(machine)
    kept = []
    for probe in probes_up_to(len(machine) - 1, len(machine[0])):
        end = walked(machine, 0, probe)[1]
        if seen[end] not in [seen[state] for state in kept]:
            kept.append(end)
    order = [seen[state] for state in kept]
    return [[(answer, order.index(seen[after])) for answer, after in machine[state]] for state in kept]


def alike(one, other):
    return pairs_met(one, other) is not None


class Classes(unittest.TestCase):
    def test_small_machines_by_all_probes(self):
        for machine in small_machines():
            self.assertEqual(classes(machine), classes_by_all_probes(machine), machine)

    def test_large_machines(self):
        for machine in large_machines():
            told = classes(machine)
            self.assertEqual(sorted(sum(told, [])), list(range(len(machine))))
            self.assertEqual(told, sorted(sorted(one) for one in told))
            probes = apart(machine)
            for one in told:
                for other in told:
                    for state in one:
                        for against in other:
                            self.assertEqual(probes[state][against] is None, one == other)

    def test_those_that_no_probe_leads_to_are_there(self):
        self.assertEqual(classes([[(0, 0)], [(1, 1)], [(0, 2)], [(1, 3)]]), [[0, 2], [1, 3]])

    def test_the_order_is_that_of_the_least_states(self):
        machine = [[(5, 0)], [(3, 1)], [(5, 2)], [(1, 3)], [(3, 4)], [(1, 5)]]
        self.assertEqual(classes(machine), [[0, 2], [1, 4], [3, 5]])

    def test_machines_whose_states_are_all_alike(self):
        for states, asks in [(1, 1), (1, 5), (30, 1), (30, 5)]:
            machine = [[(-4, (state * 7 + ask) % states) for ask in range(asks)] for state in range(states)]
            self.assertEqual(classes(machine), [list(range(states))])

    def test_machines_with_no_two_alike_states(self):
        self.assertEqual(classes(chain(30)), [[state] for state in range(30)])
        self.assertEqual(classes(chain(30, 5)), [[state] for state in range(30)])

    def test_long_answers(self):
        self.assertEqual(classes([[(LONGEST, 0)], [(-LONGEST, 0)], [(LONGEST, 2)], [(LONGEST - 1, 0)]]),
                         [[0, 2], [1], [3]])


class Least(unittest.TestCase):
    def test_small_machines_by_all_probes(self):
        for machine in small_machines():
            self.assertEqual(least(machine), least_by_all_probes(machine), machine)

    def test_it_is_a_machine_and_alike(self):
        for machine in large_machines() + small_machines()[::7]:
            told = least(machine)
            self.assertTrue(is_machine(told))
            self.assertTrue(alike(machine, told))

    def test_each_state_has_a_way_and_the_ways_rise(self):
        for machine in large_machines() + small_machines()[::7]:
            led = ways(least(machine))
            self.assertNotIn(None, led)
            self.assertEqual(led, sorted(led, key=lambda way: (len(way), way)))

    def test_no_two_states_are_alike(self):
        for machine in large_machines() + small_machines()[::7]:
            told = least(machine)
            for state, row in enumerate(apart(told)):
                self.assertEqual([other for other in range(len(told)) if row[other] is None], [state])

    def test_the_least_machine_of_a_least_machine_is_itself(self):
        for machine in large_machines() + small_machines():
            self.assertEqual(least(least(machine)), least(machine))

    def test_alike_machines_have_equal_ones(self):
        draw = random.Random(11)
        for seed in range(40):
            machine = drawn_machine(seed, 2 + seed % 14, 1 + seed % 5, [0, 0, 0, 1])
            order = list(range(1, len(machine)))
            draw.shuffle(order)
            self.assertEqual(least(moved(machine, [0] + order)), least(machine))
            twice = doubled(machine, draw)
            self.assertEqual(least(twice), least(machine))
            order = list(range(1, len(twice)))
            draw.shuffle(order)
            self.assertEqual(least(moved(twice, [0] + order)), least(machine))
            self.assertEqual(least(machine + drawn_machine(seed + 1, 2, len(machine[0]), [0, 1])), least(machine))

    def test_unlike_machines_have_unlike_ones(self):
        machines = [machine for machine in small_machines() if len(machine[0]) == 2][::4]
        for one in machines:
            for other in machines:
                self.assertEqual(least(one) == least(other), alike(one, other), (one, other))

    def test_states_are_numbered_by_the_first_probe_to_one_of_the_class(self):
        # The states 1 and 3 are alike: the ask 0 leads to 3 first, so this class goes before that of 2.
        machine = [[(0, 3), (0, 2), (0, 1)], [(1, 0), (0, 0), (0, 0)], [(2, 0), (0, 0), (0, 1)],
                   [(1, 0), (0, 0), (0, 0)]]
        self.assertEqual(least(machine), [[(0, 1), (0, 2), (0, 1)], [(1, 0), (0, 0), (0, 0)],
                                          [(2, 0), (0, 0), (0, 1)]])

    def test_the_order_of_the_states_handed_in_does_not_matter(self):
        self.assertEqual(least([[(0, 2)], [(2, 1)], [(1, 1)]]), [[(0, 1)], [(1, 2)], [(2, 2)]])

    def test_states_that_no_probe_leads_to_are_left_out(self):
        self.assertEqual(least([[(0, 0)], [(1, 0)]]), [[(0, 0)]])
        self.assertEqual(least([[(0, 2)], [(7, 2)], [(1, 0)]]), [[(0, 1)], [(1, 0)]])
        # The state 1 is alike to 2, but no probe leads to it.
        self.assertEqual(least([[(0, 2)], [(1, 0)], [(1, 0)]]), [[(0, 1)], [(1, 0)]])

    def test_machines_whose_states_are_all_alike(self):
        for states, asks in [(1, 1), (1, 5), (30, 1), (30, 5)]:
            machine = [[(ask, (state * 7 + ask) % states) for ask in range(asks)] for state in range(states)]
            self.assertEqual(least(machine), [[(ask, 0) for ask in range(asks)]])

    def test_machines_that_are_least_already(self):
        for machine in [chain(30), chain(30, 5), chain(1, 5), [[(LONGEST, 1)], [(-LONGEST, 0)]]]:
            self.assertEqual(least(machine), machine)


class WhatIsTold(unittest.TestCase):
    def test_lists_are_new_and_nothing_is_changed(self):
        for machine in [chain(30, 5), even_machine(30, 5), [[(0, 0)]] * 5, [[(0, 1)], [(1, 0)]]]:
            kept = copy.deepcopy(machine)
            told = [least(machine), classes(machine), least(machine), classes(machine)]
            self.assertFalse(shares_lists(told, machine))
            self.assertEqual(machine, kept)
            told[0][0][0] = (99, 0)
            told[1][0].append(99)
            self.assertEqual([least(machine), classes(machine)], told[2:])
            self.assertEqual(machine, kept)

    def test_what_is_done_afterwards_changes_nothing(self):
        machine = [[(0, 1)], [(1, 0)]]
        told = least(machine), classes(machine)
        machine[0][0] = (1, 0)
        machine.pop()
        self.assertEqual(told, ([[(0, 1)], [(1, 0)]], [[0], [1]]))

    def test_rows_and_steps_are_lists_and_tuples(self):
        told = least(even_machine(7, 3))
        self.assertEqual({type(row) for row in told}, {list})
        self.assertEqual({type(step) for row in told for step in row}, {tuple})

    def test_machines_somewhat_beyond_the_bounds(self):
        self.assertEqual(least(chain(45, 7)), chain(45, 7))
        self.assertEqual(classes(chain(45, 7)), [[state] for state in range(45)])
        self.assertEqual(least([[(10 ** 80, 1)], [(10 ** 80, 0)]] * 20), [[(10 ** 80, 0)]])


if __name__ == "__main__":
    unittest.main()
