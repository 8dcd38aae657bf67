import copy
import unittest

from probewell.errors import NoState, TooMuch
from probewell.gathering import by_pairs, together, together_of
from probewell.joining import never
from things import (LONGEST, all_sets, chain, drawn_machine, even_machine, joined_by_pairs, label, large_machines,
                    late_joining, no_sets, probes_up_to, rings_apart, shares_lists, small_machines, walked)

# The ask 0 joins 0 and 1, the ask 1 joins 1 and 2; nothing else is joined at once.
TWO_STEPS = [[(0, 1), (0, 2)], [(0, 1), (0, 0)], [(0, 2), (0, 0)]]
# Two halves that are never left: each by itself is gathered, never both.
TWO_SINKS = [[(0, 0), (1, 1)], [(0, 0), (1, 0)], [(0, 2), (1, 3)], [(0, 2), (1, 2)]]


def landed(machine, states, probe):
    return {walked(machine, state, probe)[1] for state in states}


def gathered_by_all_probes(machine, states):
    # Each beginning of a first one leads to another set, of two states or more: so it has at most as many asks.
    many = len(machine)
    for probe in probes_up_to(2 ** many - many - 1, len(machine[0])):
        if len(landed(machine, states, probe)) == 1:
            return probe
    return None


def gathered_by_sets(machine, states):
    """Forward from the states, set by set, in the order of the probes that lead there."""
    met = {frozenset(states): []}
    waiting = [frozenset(states)]
    for held in waiting:
        if len(held) == 1:
            return met[held]
        for ask in range(len(machine[0])):
            after = frozenset(machine[state][ask][1] for state in held)
            if after not in met:
                met[after] = met[held] + [ask]
                waiting.append(after)
    return None


def gathered_pair_by_pair(machine):
    """By pairs, written down once more; each probe that joins two is sought forward from these."""
    marked, probe = list(range(len(machine))), []
    while len(marked) > 1:
        behind = joined_by_pairs(machine, marked[0], marked[1])
        if behind is None:
            return None
        probe, marked = probe + behind, sorted(landed(machine, marked, behind))
    return probe


def few_enough(machines):
    return [machine for machine in machines
            if len(machine[0]) ** (2 ** len(machine) - len(machine) - 1) <= 3000 and len(machine) < 5]


def up_to_seven():
    found = [late_joining(many) for many in range(2, 8)] + [rings_apart(7, 5), rings_apart(7, 1), chain(7), chain(7, 5)]
    found += [even_machine(7, 5), even_machine(1, 1), even_machine(1, 5), even_machine(7, 1), TWO_STEPS, TWO_SINKS]
    for seed in range(12):
        found.append(drawn_machine(seed, 7, 5, [0, 1]))
        found.append(drawn_machine(seed, 7, 2, [LONGEST, -LONGEST]))
        found.append(drawn_machine(seed, 7, 1, [0]))
        found.append(drawn_machine(seed, 6, 3, [0]))
    # Asks that lead round or change two states about, and one that joins just two: many asks are needed.
    swaps = [[(0, (state + 1) % 7), (0, (1, 0, 2, 3, 4, 5, 6)[state]), (0, max(state, 1))] for state in range(7)]
    return found + [swaps]


class Together(unittest.TestCase):
    def test_small_machines_by_all_probes(self):
        for machine in few_enough(small_machines()):
            self.assertEqual(together(machine), gathered_by_all_probes(machine, range(len(machine))), machine)

    def test_machines_up_to_seven_states_by_sets(self):
        for machine in up_to_seven():
            self.assertEqual(together(machine), gathered_by_sets(machine, range(len(machine))), machine)

    def test_there_is_one_just_where_there_are_no_never_pairs(self):
        kinds = set()
        for machine in small_machines() + up_to_seven():
            told = together(machine)
            self.assertEqual(told is None, never(machine) != [])
            kinds.add(told is None)
            if told is not None:
                self.assertEqual(len(landed(machine, range(len(machine)), told)), 1)
        self.assertEqual(kinds, {True, False})

    def test_ordinary_machines(self):
        self.assertEqual(together(TWO_STEPS), [0, 1])
        self.assertEqual(together([[(0, 1), (0, 0)], [(0, 0), (0, 0)]]), [1])
        self.assertEqual(together([[(0, 1), (0, 1)], [(0, 1), (0, 0)]]), [0])
        self.assertIsNone(together(TWO_SINKS))
        self.assertIsNone(together([[(0, 1)], [(1, 0)]]))

    def test_the_longest_one(self):
        for states in range(2, 8):
            self.assertEqual(together(late_joining(states)), ([1] + [0] * (states - 1)) * (states - 2) + [1])
        self.assertEqual(len(together(late_joining(7))), 36)

    def test_a_short_probe_goes_before_one_of_less_asks(self):
        self.assertEqual(together([[(0, 1), (0, 2)], [(0, 2), (0, 2)], [(0, 2), (0, 2)]]), [1])

    def test_of_two_as_long_the_first_unlike_ask_tells(self):
        machine = [[(0, 1), (0, 1), (0, 0)], [(0, 1), (0, 1), (0, 1)], [(0, 0), (0, 2), (0, 1)]]
        self.assertEqual(together(machine), [0, 0])
        machine = [[(0, 1), (0, 0), (0, 1)], [(0, 1), (0, 0), (0, 1)], [(0, 2), (0, 1), (0, 1)]]
        self.assertEqual(together(machine), [2])
        machine = [[(0, 1), (0, 0), (0, 1)], [(0, 1), (0, 0), (0, 1)], [(0, 2), (0, 1), (0, 0)]]
        self.assertEqual(together(machine), [1, 0])

    def test_one_state_is_gathered_by_no_asks(self):
        for asks in (1, 5):
            self.assertEqual(together(even_machine(1, asks)), [])

    def test_answers_do_not_matter(self):
        for seed in range(10):
            machine = drawn_machine(seed, 7, 3, [LONGEST, -LONGEST, 0])
            self.assertEqual(together(machine), together([[(0, after) for answer, after in row] for row in machine]))

    def test_more_than_seven_states_are_refused(self):
        for machine in [late_joining(8), rings_apart(8, 5), chain(8), even_machine(30, 5), chain(30), [[(0, 0)]] * 8,
                        even_machine(31, 1), [[(0, 0)] * 5] * 30]:
            self.assertRaises(TooMuch, together, machine)
        self.assertEqual(together([[(0, 0)]] * 7), [0])


class TogetherOf(unittest.TestCase):
    def test_small_machines_by_all_probes(self):
        for machine in few_enough(small_machines())[::2]:
            for states in all_sets(machine):
                self.assertEqual(together_of(machine, states), gathered_by_all_probes(machine, states))

    def test_machines_up_to_seven_states_by_sets(self):
        for machine in up_to_seven():
            for states in all_sets(machine):
                self.assertEqual(together_of(machine, states), gathered_by_sets(machine, states))

    def test_ordinary_sets(self):
        self.assertEqual(together_of(TWO_STEPS, [0, 1]), [0])
        self.assertEqual(together_of(TWO_STEPS, [1, 2]), [1])
        self.assertEqual(together_of(TWO_STEPS, [0, 2]), [0, 1])
        self.assertEqual(together_of(TWO_SINKS, [0, 1]), [0])
        self.assertEqual(together_of(TWO_SINKS, [2, 3]), [0])
        self.assertIsNone(together_of(TWO_SINKS, [1, 2]))
        self.assertIsNone(together_of(TWO_SINKS, [0, 1, 2]))

    def test_all_states(self):
        for machine in small_machines() + up_to_seven():
            self.assertEqual(together_of(machine, list(range(len(machine)))), together(machine))

    def test_one_state_is_gathered_by_no_asks(self):
        for machine in [rings_apart(7, 5), late_joining(7), even_machine(1, 1), TWO_SINKS]:
            for state in range(len(machine)):
                self.assertEqual(together_of(machine, [state]), [])

    def test_what_is_no_set_is_refused(self):
        for machine in [late_joining(7), rings_apart(7, 5), TWO_STEPS, even_machine(1, 5), [[(0, 0)]]]:
            for thing in no_sets(len(machine)):
                with self.subTest(label(thing)):
                    self.assertRaises(NoState, together_of, machine, thing)

    def test_more_than_seven_states_are_refused_whatever_the_set(self):
        for machine in [late_joining(8), rings_apart(30, 5), [[(0, 0)]] * 8]:
            for thing in no_sets(len(machine)) + [[0], [7], [0, 1], list(range(8)), list(range(len(machine)))]:
                with self.subTest(label(thing)):
                    self.assertRaises(TooMuch, together_of, machine, thing)


class ByPairs(unittest.TestCase):
    def test_machines_by_the_words_of_the_point(self):
        for machine in small_machines() + up_to_seven():
            self.assertEqual(by_pairs(machine), gathered_pair_by_pair(machine), machine)

    def test_large_machines(self):
        machines = large_machines() + [late_joining(30), rings_apart(30, 5), rings_apart(30, 1), late_joining(8)]
        machines += [drawn_machine(seed, 8 + seed, 2, [0]) for seed in range(8)]
        kinds = set()
        for machine in machines:
            told = by_pairs(machine)
            self.assertTrue(told == gathered_pair_by_pair(machine))
            self.assertEqual(told is None, never(machine) != [])
            kinds.add(told is None)
        self.assertEqual(kinds, {True, False})

    def test_it_gathers_and_is_no_shorter_than_the_first_one(self):
        longer = 0
        for machine in up_to_seven():
            told, first = by_pairs(machine), together(machine)
            self.assertEqual(told is None, first is None)
            if told is not None:
                self.assertEqual(len(landed(machine, range(len(machine)), told)), 1)
                self.assertLessEqual((len(first), first), (len(told), told))
                longer += told != first
        self.assertGreater(longer, 0)

    def test_ordinary_machines(self):
        # 0 and 1 are joined by [0], which leaves 1 and 2; these are joined by [1].
        self.assertEqual(by_pairs(TWO_STEPS), [0, 1])
        # 0 and 1 are joined by [0, 0, 0, 1], which leaves 0, 1 and 2, then 0 and 1.
        self.assertEqual(by_pairs(late_joining(4)), [0, 0, 0, 1] * 3)
        self.assertEqual(together(late_joining(4)), [1, 0, 0, 0, 1, 0, 0, 0, 1])
        self.assertIsNone(by_pairs(TWO_SINKS))

    def test_never_pairs_that_are_marked_last(self):
        # All but the last two are joined to 0 by one ask.
        machine = [[(0, 0), (0, 0)] for state in range(28)] + [[(0, 29), (0, 28)], [(0, 28), (0, 29)]]
        self.assertIsNone(by_pairs(machine))
        machine[29][1] = (0, 0)
        self.assertIsNone(by_pairs([row[:1] for row in machine]))
        machine[28][1] = (0, 0)
        self.assertEqual(by_pairs(machine), gathered_pair_by_pair(machine))
        self.assertIsNotNone(by_pairs(machine))

    def test_one_state(self):
        for asks in (1, 5):
            self.assertEqual(by_pairs(even_machine(1, asks)), [])

    def test_one_ask(self):
        self.assertEqual(by_pairs(chain(30)), [0] * 29)
        self.assertIsNone(by_pairs(rings_apart(30, 1)))

    def test_answers_do_not_matter(self):
        for seed in range(6):
            machine = drawn_machine(seed, 30, 5, [LONGEST, -LONGEST, 0])
            silent = [[(0, after) for answer, after in row] for row in machine]
            self.assertEqual(by_pairs(machine), by_pairs(silent))

    def test_a_long_one(self):
        told = by_pairs(late_joining(30))
        self.assertTrue(told == gathered_pair_by_pair(late_joining(30)))
        self.assertTrue(29 * 29 <= len(told) <= 29 * 435)


class WhatIsTold(unittest.TestCase):
    def test_lists_are_new_and_nothing_is_changed(self):
        for machine in [TWO_STEPS, late_joining(7), even_machine(1, 5), [[(0, 0)]] * 7]:
            for states in [[0], list(range(len(machine)))]:
                kept = copy.deepcopy((machine, states))
                told = [together(machine), together_of(machine, states), by_pairs(machine)]
                again = [together(machine), together_of(machine, states), by_pairs(machine)]
                self.assertFalse(shares_lists(told + again, [machine, states]))
                for probe in told:
                    probe.append(3)
                self.assertEqual([together(machine), together_of(machine, states), by_pairs(machine)], again)
                self.assertEqual((machine, states), kept)

    def test_what_is_done_afterwards_changes_nothing(self):
        machine, states = late_joining(4), [0, 3]
        told = together(machine), together_of(machine, states), by_pairs(machine)
        kept = copy.deepcopy(told)
        machine[0][0] = (5, 0)
        machine.pop()
        states.append(9)
        self.assertEqual(told, kept)

    def test_machines_somewhat_beyond_the_bounds(self):
        machine = drawn_machine(1, 36, 7, [0])
        self.assertEqual(by_pairs(machine), gathered_pair_by_pair(machine))
        machine = drawn_machine(4, 7, 8, [10 ** 70])
        self.assertEqual(together(machine), gathered_by_sets(machine, range(7)))
        self.assertEqual(together_of(machine, [2, 5]), gathered_by_sets(machine, [2, 5]))


if __name__ == "__main__":
    unittest.main()
