import copy
import unittest

from probewell.errors import NoState
from probewell.telling import apart, told_apart
from things import (chain, drawn_machine, even_machine, label, large_machines, no_numbers_below, shares_lists,
                    small_machines, told_by_all_probes, told_by_pairs)

LONGEST = int("9" * 60)
PAIR = [[(0, 1), (1, 0)], [(-7, 0), (1, 1)]]


def by_each_pair(machine, tell):
    states = range(len(machine))
    return [[tell(machine, one, other) for other in states] for one in states]


class Apart(unittest.TestCase):
    def test_small_machines_by_all_probes(self):
        for machine in small_machines():
            self.assertEqual(apart(machine), by_each_pair(machine, told_by_all_probes), machine)

    def test_large_machines_by_pairs(self):
        for machine in large_machines():
            self.assertEqual(apart(machine), by_each_pair(machine, told_by_pairs))

    def test_the_first_ask_of_several_tells(self):
        self.assertEqual(apart([[(0, 0), (0, 1), (0, 0)], [(0, 0), (3, 1), (5, 0)]]), [[None, [1]], [[1], None]])

    def test_a_short_probe_goes_before_one_of_less_asks(self):
        machine = [[(0, 2), (0, 0)], [(0, 3), (1, 0)], [(0, 0), (0, 0)], [(1, 0), (0, 0)]]
        self.assertEqual(told_by_all_probes(machine, 0, 1), [1])
        self.assertEqual(apart(machine)[0][1], [1])

    def test_of_two_probes_as_long_the_first_unlike_ask_tells(self):
        machine = [[(0, 2), (0, 2)], [(0, 3), (0, 4)], [(0, 2), (0, 2)], [(0, 2), (1, 2)], [(1, 2), (0, 2)]]
        self.assertEqual(apart(machine)[0][1], [0, 1])

    def test_machines_whose_states_are_all_alike(self):
        for states, asks in [(1, 1), (1, 5), (2, 1), (30, 1), (30, 5)]:
            machine = [[(9, (state + ask + 1) % states) for ask in range(asks)] for state in range(states)]
            self.assertEqual(apart(machine), [[None] * states] * states)

    def test_alike_states_beside_others(self):
        machine = [[(0, 1)], [(0, 2)], [(1, 0)], [(0, 4)], [(0, 5)], [(1, 3)]]
        told = apart(machine)
        self.assertEqual([told[0][3], told[1][4], told[5][2]], [None, None, None])
        self.assertEqual([told[0][1], told[0][4], told[3][5]], [[0, 0], [0, 0], [0]])

    def test_states_that_no_probe_leads_to_are_told_apart_too(self):
        self.assertEqual(apart([[(0, 0)], [(1, 1)], [(0, 2)]]), [[None, [0], None], [[0], None, [0]], [None, [0], None]])

    def test_the_longest_probes(self):
        for asks in [1, 5]:
            told = apart(chain(30, asks))
            for one in range(30):
                for other in range(30):
                    expected = [asks - 1] * (30 - max(one, other))
                    self.assertEqual(told[one][other], None if one == other else expected)
            self.assertEqual(len(told[0][1]), 29)

    def test_long_answers(self):
        machine = [[(LONGEST, 0)], [(LONGEST - 1, 0)], [(-LONGEST, 0)], [(LONGEST, 1)]]
        self.assertEqual(apart(machine)[0], [None, [0], [0], [0, 0]])

    def test_answers_that_are_far_from_one_another_are_no_less_alike(self):
        # Numbers that Python keeps at one place of its tables must still count as unlike.
        turn = 2 ** 61 - 1
        self.assertEqual(apart([[(-1, 0)], [(-2, 1)], [(0, 2)], [(turn, 3)]])[0][1:], [[0], [0], [0]])
        self.assertEqual(apart([[(0, 0)], [(turn, 1)], [(-turn, 2)]])[0][1:], [[0], [0]])


class ToldApart(unittest.TestCase):
    def test_small_machines(self):
        for machine in small_machines()[::3]:
            self.assertEqual(by_each_pair(machine, told_apart), by_each_pair(machine, told_by_all_probes), machine)

    def test_large_machines(self):
        for machine in [chain(30, 5), even_machine(30, 5), drawn_machine(3, 30, 5, [0, 1])]:
            self.assertEqual(by_each_pair(machine, told_apart), apart(machine))

    def test_a_state_and_itself_are_alike(self):
        for machine in [PAIR, even_machine(1, 5), chain(30)]:
            for state in range(len(machine)):
                self.assertIsNone(told_apart(machine, state, state))

    def test_refuses_what_is_no_state(self):
        for machine in [even_machine(1, 1), PAIR, even_machine(30, 5)]:
            for thing in no_numbers_below(len(machine)):
                for one, other in [(thing, 0), (0, thing), (thing, thing), (len(machine) - 1, thing), (None, thing)]:
                    with self.subTest(label((one, other))), self.assertRaises(NoState):
                        told_apart(machine, one, other)


class WhatIsTold(unittest.TestCase):
    def test_lists_are_new_and_nothing_is_changed(self):
        for machine in [PAIR, chain(30, 5), even_machine(30, 5), [[(0, 0)]] * 5]:
            kept = copy.deepcopy(machine)
            last = len(machine) - 1
            told = [apart(machine), told_apart(machine, 0, last), apart(machine), told_apart(machine, 0, last)]
            self.assertFalse(shares_lists(told, machine))
            self.assertEqual(machine, kept)

    def test_what_the_asker_does_changes_nothing(self):
        machine = copy.deepcopy(PAIR)
        told = apart(machine)
        probe = told_apart(machine, 0, 1)
        told[0][1].append(7)
        self.assertEqual(told[1][0], [0])
        probe.append(7)
        self.assertEqual(apart(machine), [[None, [0]], [[0], None]])
        kept = apart(machine)
        machine[1][0] = (0, 0)
        self.assertEqual(kept, [[None, [0]], [[0], None]])

    def test_machines_somewhat_beyond_the_bounds(self):
        for machine in [chain(40, 7), drawn_machine(8, 37, 6, [10 ** 80, 10 ** 80 + 1])]:
            self.assertEqual(apart(machine), by_each_pair(machine, told_by_pairs))


if __name__ == "__main__":
    unittest.main()
