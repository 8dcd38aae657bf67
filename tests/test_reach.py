import copy
import unittest

from probewell.reach import reached, ways
from probewell.walks import before
from things import (chain, drawn_machine, even_machine, large_machines, probes_up_to, shares_lists, small_machines,
                    walked)

STAYS = [[(0, 0), (1, 0)], [(0, 0), (1, 1)]]


def ways_by_all_probes(machine):
    found = [None] * len(machine)
    for probe in probes_up_to(len(machine) - 1, len(machine[0])):
        end = walked(machine, 0, probe)[1]
        if found[end] is None:
            found[end] = probe
    return found


def first_of(probes):
    """By comparing alone, for the order of the tests to rest on nothing else."""
    found = probes[0]
    for probe in probes[1:]:
        if before(probe, found):
            found = probe
    return found


class Ways(unittest.TestCase):
    def test_small_machines_by_all_probes(self):
        for machine in small_machines():
            self.assertEqual(ways(machine), ways_by_all_probes(machine), machine)

    def test_the_least_ask_of_several_leads(self):
        self.assertEqual(ways([[(0, 0), (0, 1), (1, 1)], [(0, 0), (0, 0), (0, 0)]]), [[], [1]])

    def test_a_short_way_goes_before_one_of_less_asks(self):
        self.assertEqual(ways([[(0, 1), (0, 2)], [(0, 2), (0, 0)], [(0, 0), (0, 0)]]), [[], [0], [1]])

    def test_of_two_ways_as_long_the_first_unlike_ask_tells(self):
        machine = [[(0, 2), (0, 1)], [(0, 3), (0, 0)], [(0, 0), (0, 3)], [(0, 3), (0, 3)]]
        self.assertEqual(ways(machine), [[], [1], [0], [0, 1]])

    def test_none_where_no_probe_leads(self):
        self.assertEqual(ways(STAYS), [[], None])
        self.assertEqual(ways([[(0, 0)]] * 30), [[]] + [None] * 29)
        self.assertEqual(ways([[(0, 2)], [(0, 1)], [(0, 0)]]), [[], None, [0]])

    def test_the_way_to_the_state_0_is_empty_though_others_lead_there(self):
        self.assertEqual(ways([[(0, 0)]]), [[]])
        self.assertEqual(ways([[(5, 0)] * 5]), [[]])

    def test_the_longest_ways(self):
        self.assertEqual(ways(chain(30)), [[0] * state for state in range(30)])
        self.assertEqual(ways(chain(30, 5)), [[4] * state for state in range(30)])

    def test_large_machines(self):
        for machine in large_machines():
            told = ways(machine)
            self.assertEqual(len(told), len(machine))
            self.assertEqual(told[0], [])
            for state, way in enumerate(told):
                if way is not None:
                    self.assertEqual(walked(machine, 0, way)[1], state)
                led = [told[one] + [ask] for one in range(len(machine)) if told[one] is not None
                       for ask in range(len(machine[0])) if machine[one][ask][1] == state]
                if state > 0:
                    self.assertEqual(way, first_of(led) if led else None)


class Reached(unittest.TestCase):
    def test_small_machines_by_all_probes(self):
        for machine in small_machines():
            by_probes = []
            for probe in probes_up_to(len(machine) - 1, len(machine[0])):
                end = walked(machine, 0, probe)[1]
                if end not in by_probes:
                    by_probes.append(end)
            self.assertEqual(reached(machine), by_probes, machine)

    def test_they_stand_in_the_order_of_their_ways(self):
        self.assertEqual(reached([[(0, 3), (0, 1)], [(0, 0), (0, 0)], [(0, 0), (0, 1)], [(0, 3), (0, 2)]]), [0, 3, 1, 2])
        for machine in large_machines():
            told = reached(machine)
            led = ways(machine)
            self.assertEqual(sorted(told), [state for state in range(len(machine)) if led[state] is not None])
            for one, other in zip(told, told[1:]):
                self.assertTrue(before(led[one], led[other]))

    def test_those_without_a_way_are_left_out(self):
        self.assertEqual(reached(STAYS), [0])
        self.assertEqual(reached([[(0, 0)]] * 30), [0])
        self.assertEqual(reached([[(0, 2)], [(0, 1)], [(0, 0)]]), [0, 2])

    def test_all_of_a_chain(self):
        self.assertEqual(reached(chain(30)), list(range(30)))
        self.assertEqual(reached(even_machine(1, 5)), [0])


class WhatIsTold(unittest.TestCase):
    def test_lists_are_new_and_nothing_is_changed(self):
        for machine in [STAYS, chain(30, 5), even_machine(30, 5), drawn_machine(2, 9, 2, [0, 1])]:
            kept = copy.deepcopy(machine)
            told = [ways(machine), reached(machine), ways(machine), reached(machine)]
            self.assertFalse(shares_lists(told, machine))
            self.assertEqual(machine, kept)
            told[0][0].append(3)
            told[1].append(3)
            self.assertEqual([ways(machine), reached(machine)], told[2:])

    def test_what_is_done_afterwards_changes_nothing(self):
        machine = chain(3)
        told = ways(machine), reached(machine)
        machine[0][0] = (0, 0)
        machine.pop()
        self.assertEqual(told, ([[], [0], [0, 0]], [0, 1, 2]))

    def test_machines_somewhat_beyond_the_bounds(self):
        self.assertEqual(ways(chain(45, 7)), [[6] * state for state in range(45)])
        self.assertEqual(reached(chain(45, 7)), list(range(45)))


if __name__ == "__main__":
    unittest.main()
