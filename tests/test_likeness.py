import copy
import random
import unittest

from probewell.errors import ProbeError, Unfit
from probewell.likeness import compare
from probewell.merging import least
from probewell.telling import told_apart
from things import (all_machines, chain, doubled, drawn_machine, even_machine, large_machines, lists_in, moved,
                    pairs_met, probes_up_to, shares_lists, small_machines, told_by_all_probes, walked)

LONGEST = int("9" * 60)
PAIR = [[(0, 1), (1, 0)], [(-7, 0), (1, 1)]]


def side_by_side(one, other):
    """One machine that holds both: the states of the other one are counted on behind those of the one."""
    return one + [[(answer, after + len(one)) for answer, after in row] for row in other]


def ring(answers):
    return [[(answer, (state + 1) % len(answers))] for state, answer in enumerate(answers)]


def rings_unlike_late(one, other):
    """Two rings of so many states, with no common divisor, that are answered alike as long as unlike ones can be."""
    word = list(range(one + other - 2))
    for turn in range(len(word)):
        for length in (one, other):
            for place in range(len(word) - length):
                word[place] = word[place + length] = min(word[place], word[place + length])
    kinds = sorted(set(word))
    letters = [kinds.index(letter) for letter in word]
    return ring((letters + [1])[:one]), ring((letters + [1])[:other])


def pairs_by_all_probes(one, other):
    found = set()
    for probe in probes_up_to(len(one) * len(other) - 1, len(one[0])):
        found.add((walked(one, 0, probe)[1], walked(other, 0, probe)[1]))
    return sorted(found)


def shuffled(machine, draw):
    order = list(range(1, len(machine)))
    draw.shuffle(order)
    return moved(machine, [0] + order)


class ByAllProbes(unittest.TestCase):
    def hold(self, one, other):
        probe = told_by_all_probes(side_by_side(one, other), 0, len(one))
        expected = ("alike", pairs_by_all_probes(one, other)) if probe is None else ("unlike", probe)
        self.assertEqual(compare(one, other), expected, (one, other))

    def test_all_small_machines_of_one_ask(self):
        machines = [machine for states in (1, 2) for machine in all_machines(states, 1, [0, 1])]
        machines += list(all_machines(3, 1, [0, 1]))[::5]
        for one in machines:
            for other in machines:
                self.hold(one, other)

    def test_small_machines_of_several_asks(self):
        for asks in (2, 3):
            machines = [machine for machine in small_machines() if len(machine[0]) == asks and len(machine) <= 3]
            for one in machines[::5]:
                for other in machines[::7]:
                    self.hold(one, other)

    def test_alike_ones(self):
        draw = random.Random(3)
        for machine in small_machines()[::9]:
            if len(machine) <= 3:
                self.hold(machine, shuffled(machine, draw))
                self.hold(least(machine), machine)
                self.hold(machine, least(machine))


class Alike(unittest.TestCase):
    def test_a_machine_and_itself(self):
        for machine in large_machines():
            kind, pairs = compare(machine, machine)
            self.assertEqual(kind, "alike")
            self.assertEqual(pairs, sorted(pairs_met(machine, machine)))

    def test_the_pairs_rise_and_stand_once_as_tuples_in_a_list(self):
        one = [[(0, 2), (0, 1)], [(0, 0), (0, 1)], [(0, 1), (0, 2)]]
        told = compare(one, [[(0, 0), (0, 0)]])
        self.assertEqual(told, ("alike", [(0, 0), (1, 0), (2, 0)]))
        self.assertEqual([type(told), type(told[1])] + [type(pair) for pair in told[1]], [tuple, list] + [tuple] * 3)

    def test_the_state_of_the_one_stands_first(self):
        self.assertEqual(compare([[(0, 1)], [(0, 1)]], [[(0, 0)]]), ("alike", [(0, 0), (1, 0)]))
        self.assertEqual(compare([[(0, 0)]], [[(0, 1)], [(0, 1)]]), ("alike", [(0, 0), (0, 1)]))

    def test_a_state_may_stand_in_several_pairs(self):
        self.assertEqual(compare([[(0, 1)], [(0, 0)]], [[(0, 1)], [(0, 2)], [(0, 0)]]),
                         ("alike", [(0, 0), (0, 1), (0, 2), (1, 0), (1, 1), (1, 2)]))

    def test_states_that_are_numbered_otherwise(self):
        self.assertEqual(compare([[(0, 2)], [(7, 1)], [(1, 0)]], [[(0, 1)], [(1, 0)], [(2, 0)]]),
                         ("alike", [(0, 0), (2, 1)]))

    def test_states_that_no_probe_leads_to_are_in_no_pair_and_part_nothing(self):
        self.assertEqual(compare([[(3, 0)], [(9, 1)]], [[(3, 0)], [(8, 0)], [(7, 2)]]), ("alike", [(0, 0)]))
        self.assertEqual(compare([[(3, 2)], [(9, 1)], [(3, 0)]], [[(3, 0)], [(8, 0)]]), ("alike", [(0, 0), (2, 0)]))

    def test_unlike_numbers_of_states(self):
        draw = random.Random(7)
        for seed in range(30):
            machine = drawn_machine(seed, 1 + seed % 15, 1 + seed % 5, [0, 0, 1])
            twice = shuffled(doubled(machine, draw), draw)
            for one, other in [(machine, twice), (twice, machine), (twice, least(machine)), (least(machine), twice)]:
                self.assertEqual(compare(one, other), ("alike", sorted(pairs_met(one, other))))

    def test_one_state_against_thirty(self):
        for asks in (1, 5):
            thirty = [[(LONGEST, (state + ask + 1) % 30) for ask in range(asks)] for state in range(30)]
            single = [[(LONGEST, 0)] * asks]
            self.assertEqual(compare(single, thirty), ("alike", [(0, state) for state in range(30)]))
            self.assertEqual(compare(thirty, single), ("alike", [(state, 0) for state in range(30)]))

    def test_as_many_pairs_as_there_can_be(self):
        every = [(one, other) for one in range(30) for other in range(29)]
        self.assertEqual(compare(ring([4] * 30), ring([4] * 29)), ("alike", every))
        stay_or_go = [[(0, state), (0, (state + 1) % 30), (1, 0)] for state in range(30)]
        go_or_stay = [[(0, (state + 1) % 30), (0, state), (1, 0)] for state in range(30)]
        self.assertEqual(compare(stay_or_go, go_or_stay)[1], [(one, other) for one in range(30) for other in range(30)])


class Unlike(unittest.TestCase):
    def test_the_least_ask_of_several(self):
        self.assertEqual(compare([[(0, 0), (1, 0), (2, 0)]], [[(0, 0), (5, 0), (6, 0)]]), ("unlike", [1]))

    def test_a_short_probe_goes_before_one_of_less_asks(self):
        one = [[(0, 1), (0, 0), (3, 0)], [(1, 1), (0, 0), (3, 0)]]
        other = [[(0, 1), (0, 0), (4, 0)], [(2, 1), (0, 0), (3, 0)]]
        self.assertEqual(compare(one, other), ("unlike", [2]))

    def test_of_two_probes_as_long_the_first_unlike_ask_tells(self):
        one = [[(0, 1), (0, 2)], [(0, 0), (5, 0)], [(6, 0), (0, 0)]]
        other = [[(0, 1), (0, 2)], [(0, 0), (7, 0)], [(8, 0), (0, 0)]]
        self.assertEqual(compare(one, other), ("unlike", [0, 1]))
        self.assertEqual(compare(other, one), ("unlike", [0, 1]))

    def test_large_machines_by_levels(self):
        draw = random.Random(2)
        for seed in range(25):
            asks = 1 + seed % 5
            one = drawn_machine(seed, 30, asks, [0] * 20 + [1])
            other = copy.deepcopy(shuffled(one, draw))
            state, ask = draw.randrange(30), draw.randrange(asks)
            other[state][ask] = (other[state][ask][0], draw.randrange(30))
            for left, right in [(one, other), (other, one), (one, drawn_machine(seed + 1, 29, asks, [0] * 20 + [1]))]:
                probe = told_apart(side_by_side(left, right), 0, 30)
                kind, told = compare(left, right)
                self.assertEqual(kind, "alike" if probe is None else "unlike")
                self.assertEqual(told, sorted(pairs_met(left, right)) if probe is None else probe)

    def test_chains_of_unlike_lengths(self):
        for asks in (1, 5):
            for states in (1, 2, 29):
                self.assertEqual(compare(chain(states, asks), chain(30, asks)), ("unlike", [asks - 1] * states))
                self.assertEqual(compare(chain(30, asks), chain(states, asks)), ("unlike", [asks - 1] * states))

    def test_the_longest_probes_that_can_be(self):
        for states, against in [(1, 2), (2, 3), (3, 5), (7, 30), (29, 30), (30, 29)]:
            one, other = rings_unlike_late(states, against)
            kind, probe = compare(one, other)
            self.assertEqual((kind, probe), ("unlike", [0] * (states + against - 1)))
            self.assertNotEqual(walked(one, 0, probe)[0], walked(other, 0, probe)[0])
            self.assertEqual(walked(one, 0, probe[:-1])[0], walked(other, 0, probe[:-1])[0])

    def test_probes_are_no_longer_than_promised(self):
        for seed in range(60):
            one = drawn_machine(seed, 1 + seed % 4, 1, [0, 1])
            other = drawn_machine(seed + 100, 1 + seed % 7, 1, [0, 1])
            kind, told = compare(one, other)
            if kind == "unlike":
                self.assertLessEqual(len(told), len(one) + len(other) - 1)

    def test_long_answers(self):
        self.assertEqual(compare([[(LONGEST, 0)]], [[(LONGEST, 0)]]), ("alike", [(0, 0)]))
        self.assertEqual(compare([[(LONGEST, 0)]], [[(LONGEST - 1, 0)]]), ("unlike", [0]))
        self.assertEqual(compare([[(LONGEST, 0)]], [[(-LONGEST, 0)]]), ("unlike", [0]))
        self.assertEqual(compare([[(0, 0)]], [[(2 ** 61 - 1, 0)]]), ("unlike", [0]))

    def test_equal_answers_of_unlike_objects_are_alike(self):
        one, other = int("9" * 60), int("9" * 60)
        self.assertIsNot(one, other)
        self.assertEqual(compare([[(one, 0)]], [[(other, 0)]]), ("alike", [(0, 0)]))


class Refused(unittest.TestCase):
    def test_unlike_numbers_of_asks_either_way_round(self):
        for many in range(1, 6):
            for against in range(1, 6):
                for states, beside in [(1, 1), (1, 30), (30, 30), (3, 2)]:
                    for make in (even_machine, chain):
                        one, other = make(states, many), make(beside, against)
                        if many == against:
                            self.assertIn(compare(one, other)[0], ("alike", "unlike"))
                        else:
                            with self.subTest((one, other)), self.assertRaises(Unfit):
                                compare(one, other)

    def test_also_where_the_common_asks_are_answered_unlike(self):
        for one, other in [([[(0, 0)]], [[(1, 0), (0, 0)]]), ([[(1, 0), (0, 0)]], [[(0, 0)]])]:
            with self.assertRaises(Unfit):
                compare(one, other)

    def test_it_is_a_refusal(self):
        with self.assertRaises(ProbeError):
            compare([[(0, 0)]], [[(0, 0), (0, 0)]])

    def test_it_changes_nothing(self):
        one, other = copy.deepcopy(PAIR), chain(3)
        with self.assertRaises(Unfit):
            compare(one, other)
        self.assertEqual((one, other), (PAIR, chain(3)))


class WhatIsTold(unittest.TestCase):
    def test_lists_are_new_and_nothing_is_changed(self):
        for one, other in [(PAIR, PAIR), (chain(30, 5), even_machine(30, 5)), ([[(0, 0)]] * 3, [[(0, 1)]] * 2)]:
            kept = copy.deepcopy((one, other))
            told = [compare(one, other), compare(one, other)]
            self.assertFalse(shares_lists(told, [one, other]))
            self.assertEqual((one, other), kept)
            lists_in(told[0])[0].append(77)
            self.assertEqual(compare(one, other), told[1])

    def test_what_is_done_afterwards_changes_nothing(self):
        one, other = copy.deepcopy(PAIR), copy.deepcopy(PAIR)
        told = compare(one, other)
        one[0][0] = (55, 0)
        other.clear()
        self.assertEqual(told, ("alike", [(0, 0), (1, 1)]))

    def test_machines_somewhat_beyond_the_bounds(self):
        one = drawn_machine(4, 37, 7, [10 ** 80, 10 ** 80 + 1])
        self.assertEqual(compare(one, one), ("alike", sorted(pairs_met(one, one))))
        self.assertEqual(compare(chain(40, 7), chain(45, 7)), ("unlike", [6] * 40))


if __name__ == "__main__":
    unittest.main()
