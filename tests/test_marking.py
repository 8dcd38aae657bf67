import copy
import unittest

from probewell.marking import marks
from things import (chain, drawn_machine, even_machine, large_machines, shares_lists, sights, small_machines,
                    told_by_all_probes, told_by_pairs, walked)

LONGEST = int("9" * 60)
PAIR = [[(0, 1), (1, 0)], [(-7, 0), (1, 1)]]


def marks_by(machine, tell):
    found = []
    for state in range(len(machine)):
        probes = [tell(machine, state, other) for other in range(len(machine))]
        unlike = {tuple(probe) for probe in probes if probe is not None} or {()}
        found.append([list(probe) for probe in sorted(unlike, key=lambda probe: (len(probe), probe))])
    return found


class Marks(unittest.TestCase):
    def test_small_machines_by_all_probes(self):
        for machine in small_machines():
            self.assertEqual(marks(machine), marks_by(machine, told_by_all_probes), machine)

    def test_large_machines_by_pairs(self):
        for machine in large_machines():
            self.assertEqual(marks(machine), marks_by(machine, told_by_pairs))

    def test_an_ordinary_machine(self):
        self.assertEqual(marks(PAIR), [[[0]], [[0]]])

    def test_each_probe_stands_once(self):
        self.assertEqual(marks([[(0, 0)], [(1, 1)], [(2, 2)], [(0, 3)]]), [[[0]]] * 4)

    def test_they_stand_in_order(self):
        # The state 0 is told apart from 1 by the longer probe, from 2 by the ask 1, from 3 by the ask 0.
        machine = [[(0, 2), (0, 0)], [(0, 3), (0, 0)], [(0, 0), (1, 0)], [(1, 0), (0, 0)]]
        self.assertEqual(marks(machine)[0], [[0], [1], [0, 0]])

    def test_of_probes_as_long_the_first_unlike_ask_tells(self):
        machine = [[(0, 0), (0, 0), (0, 0)], [(0, 0), (0, 0), (9, 0)], [(0, 0), (8, 0), (0, 0)],
                   [(7, 0), (0, 0), (0, 0)]]
        self.assertEqual(marks(machine), [[[0], [1], [2]], [[0], [1], [2]], [[0], [1]], [[0]]])

    def test_the_empty_probe_alone_where_all_states_are_alike(self):
        for states, asks in [(1, 1), (1, 5), (2, 1), (30, 1), (30, 5)]:
            machine = [[(LONGEST, (state * 7 + ask) % states) for ask in range(asks)] for state in range(states)]
            self.assertEqual(marks(machine), [[[]]] * states)

    def test_the_empty_probe_stands_nowhere_else(self):
        for machine in large_machines() + small_machines()[::5]:
            told = marks(machine)
            alone = [[]] in told
            self.assertEqual([[] in probes for probes in told], [alone] * len(machine))

    def test_alike_states_have_equal_marks(self):
        machine = [[(0, 1)], [(0, 2)], [(1, 0)], [(0, 4)], [(0, 5)], [(1, 3)]]
        self.assertEqual(marks(machine), [[[0], [0, 0]], [[0], [0, 0]], [[0]]] * 2)

    def test_states_that_no_probe_leads_to_are_marked_and_mark_others(self):
        self.assertEqual(marks([[(0, 0)], [(1, 1)]]), [[[0]], [[0]]])

    def test_states_told_apart_by_long_probes(self):
        for asks in (1, 5):
            told = marks(chain(30, asks))
            for state in range(30):
                longest = 30 - max(state, 1)
                self.assertEqual(told[state], [[asks - 1] * many for many in range(1, longest + 1)])

    def test_long_answers(self):
        self.assertEqual(marks([[(LONGEST, 0)], [(LONGEST - 1, 0)], [(LONGEST, 1)]]), [[[0], [0, 0]], [[0]],
                                                                                     [[0], [0, 0]]])

    def test_unlike_states_have_a_common_mark_that_they_answer_unlike(self):
        for machine in small_machines()[::4]:
            told, seen = marks(machine), sights(machine)
            for one in range(len(machine)):
                for other in range(len(machine)):
                    common = [probe for probe in told[one] if probe in told[other]
                              and walked(machine, one, probe)[0] != walked(machine, other, probe)[0]]
                    self.assertEqual(bool(common), seen[one] != seen[other])


class WhatIsTold(unittest.TestCase):
    def test_lists_are_new_and_nothing_is_changed(self):
        for machine in [PAIR, chain(30, 5), even_machine(30, 5), [[(0, 0)]] * 5, drawn_machine(2, 9, 2, [0, 1])]:
            kept = copy.deepcopy(machine)
            told = [marks(machine), marks(machine)]
            self.assertFalse(shares_lists(told, machine))
            self.assertEqual(machine, kept)
            told[0][0][0].append(3)
            told[0][-1].append(3)
            self.assertEqual(marks(machine), told[1])

    def test_what_is_done_afterwards_changes_nothing(self):
        machine = copy.deepcopy(PAIR)
        told = marks(machine)
        machine[1][0] = (0, 0)
        machine.pop()
        self.assertEqual(told, [[[0]], [[0]]])

    def test_machines_somewhat_beyond_the_bounds(self):
        for machine in [chain(40, 7), drawn_machine(8, 37, 6, [10 ** 80, 10 ** 80 + 1])]:
            self.assertEqual(marks(machine), marks_by(machine, told_by_pairs))


if __name__ == "__main__":
    unittest.main()
