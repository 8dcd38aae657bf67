import copy
import enum
import random
import unittest

from probewell.errors import NoProbe, NoState
from probewell.walks import before, is_probe, run, walk
from things import (chain, drawn_machine, even_machine, label, large_machines, no_numbers_below, no_probes,
                    probes_up_to, shares_lists, small_machines, walked)

PAIR = [[(0, 1), (1, 0)], [(-7, 0), (1, 1)]]
LONGEST = int("9" * 60)


class OwnList(list):
    pass


class Ask(enum.IntEnum):
    NONE = 0


class IsProbe(unittest.TestCase):
    def test_lists_of_asks_are_probes(self):
        for many in range(1, 6):
            for probe in probes_up_to(3, many):
                self.assertIs(is_probe(probe, many), True, (probe, many))

    def test_the_number_of_asks_bounds_them(self):
        for many in range(1, 6):
            for ask in range(-7, 8):
                self.assertIs(is_probe([ask], many), 0 <= ask < many, (ask, many))
                self.assertIs(is_probe([0, ask, 0], many), 0 <= ask < many, (ask, many))

    def test_it_has_at_most_thirteen_thousand_asks(self):
        for many in range(1, 6):
            for length in [0, 1, 12999, 13000]:
                self.assertIs(is_probe([many - 1] * length, many), True, (length, many))
            for length in [13001, 13002, 50000]:
                self.assertIs(is_probe([many - 1] * length, many), False, (length, many))

    def test_other_things_are_none(self):
        for many in range(1, 6):
            for thing in no_probes(many):
                self.assertIs(is_probe(thing, many), False, label(thing))

    def test_truths_are_no_asks(self):
        self.assertIs(is_probe([True], 5), False)
        self.assertIs(is_probe([0, False], 5), False)

    def test_a_list_of_a_kind_of_its_own_is_one(self):
        self.assertIs(is_probe(OwnList([0, 1]), 2), True)
        self.assertIs(is_probe([Ask.NONE], 1), True)

    def test_nothing_is_changed(self):
        for thing in [[], [0, 1, 2], [0, 9], [[0], "x"]]:
            kept = copy.deepcopy(thing)
            is_probe(thing, 3)
            self.assertEqual(thing, kept)


class Before(unittest.TestCase):
    def test_all_small_probes_in_order(self):
        probes = list(probes_up_to(3, 3))
        for place, one in enumerate(probes):
            for against, other in enumerate(probes):
                self.assertIs(before(one, other), place < against, (one, other))

    def test_the_shorter_one_goes_first(self):
        self.assertIs(before([4, 4], [0, 0, 0]), True)
        self.assertIs(before([0, 0, 0], [4, 4]), False)
        self.assertIs(before([], [0]), True)
        self.assertIs(before([0], []), False)
        self.assertIs(before([4] * 12999, [0] * 13000), True)
        self.assertIs(before([0] * 13000, [4] * 12999), False)

    def test_the_first_unlike_place_tells(self):
        self.assertIs(before([0, 4, 4], [1, 0, 0]), True)
        self.assertIs(before([2, 1, 0], [2, 0, 4]), False)
        self.assertIs(before([3] * 12999 + [0], [3] * 12999 + [1]), True)
        self.assertIs(before([3] * 12999 + [1], [3] * 12999 + [0]), False)

    def test_none_comes_before_itself(self):
        for probe in [[], [0], [4, 3], [2] * 13000]:
            self.assertIs(before(probe, probe), False)
            self.assertIs(before(probe, list(probe)), False)

    def test_probes_somewhat_beyond_the_bound(self):
        self.assertIs(before([4] * 13000, [0] * 13001), True)
        self.assertIs(before([0] * 13001, [4] * 13000), False)

    def test_nothing_is_changed(self):
        one, other = [0, 2, 1], [0, 1, 2]
        before(one, other)
        self.assertEqual((one, other), ([0, 2, 1], [0, 1, 2]))


class Walk(unittest.TestCase):
    def test_an_ordinary_machine(self):
        self.assertEqual(walk(PAIR, 0, [0, 1, 0, 1]), ([0, 1, -7, 1], 0))
        self.assertEqual(walk(PAIR, 1, [0, 0]), ([-7, 0], 1))

    def test_a_tuple_of_a_list_and_a_state_is_told(self):
        told = walk(PAIR, 1, [1])
        self.assertEqual([type(told), type(told[0]), type(told[1])], [tuple, list, int])

    def test_the_empty_probe_stays(self):
        for machine in [PAIR, even_machine(1, 1), even_machine(30, 5)]:
            for state in range(len(machine)):
                self.assertEqual(walk(machine, state, []), ([], state))

    def test_small_machines_by_small_probes(self):
        for machine in small_machines()[::5]:
            for state in range(len(machine)):
                for probe in probes_up_to(3, len(machine[0])):
                    self.assertEqual(walk(machine, state, probe), walked(machine, state, probe))

    def test_large_machines_by_long_probes(self):
        draw = random.Random(5)
        for machine in large_machines():
            for length in [1, 100, 12999, 13000]:
                state = draw.randrange(len(machine))
                probe = [draw.randrange(len(machine[0])) for place in range(length)]
                self.assertEqual(walk(machine, state, probe), walked(machine, state, probe))

    def test_long_answers(self):
        machine = [[(LONGEST, 1)], [(-LONGEST, 0)]]
        self.assertEqual(walk(machine, 1, [0, 0, 0]), ([-LONGEST, LONGEST, -LONGEST], 0))

    def test_the_last_state_and_the_last_ask(self):
        self.assertEqual(walk(chain(30, 5), 29, [4, 4, 0]), ([1, 1, 0], 0))
        self.assertEqual(walk(chain(30, 5), 28, [4, 4]), ([0, 1], 29))

    def test_refuses_what_is_no_state(self):
        for machine in [even_machine(1, 1), PAIR, even_machine(30, 5)]:
            for thing in no_numbers_below(len(machine)):
                with self.subTest(label(thing)), self.assertRaises(NoState):
                    walk(machine, thing, [0])

    def test_refuses_every_number_that_is_no_state(self):
        for number in list(range(-40, 0)) + list(range(30, 70)):
            with self.subTest(number), self.assertRaises(NoState):
                walk(even_machine(30, 2), number, [])

    def test_refuses_what_is_no_probe(self):
        for machine in [even_machine(1, 1), PAIR, even_machine(30, 5)]:
            for thing in no_probes(len(machine[0])):
                with self.subTest(label(thing)), self.assertRaises(NoProbe):
                    walk(machine, len(machine) - 1, thing)

    def test_no_state_goes_first(self):
        for state in no_numbers_below(2):
            for probe in [None, "0", (0,), [2], [-1], [True], [0] * 13001, 0]:
                with self.subTest(label(state)), self.assertRaises(NoState):
                    walk(PAIR, state, probe)


class Run(unittest.TestCase):
    def test_the_answers_of_the_walk_from_the_state_0(self):
        self.assertEqual(run(PAIR, [0, 1, 0, 1]), [0, 1, -7, 1])
        self.assertEqual(run(PAIR, []), [])
        for machine in small_machines()[::5]:
            for probe in probes_up_to(3, len(machine[0])):
                self.assertEqual(run(machine, probe), walked(machine, 0, probe)[0])

    def test_the_longest_probe(self):
        machine = even_machine(30, 5)
        probe = [0, 1, 2, 3, 4] * 2600
        self.assertEqual(run(machine, probe), walked(machine, 0, probe)[0])
        with self.assertRaises(NoProbe):
            run(machine, probe + [0])

    def test_refuses_what_is_no_probe(self):
        for machine in [even_machine(1, 1), PAIR, even_machine(30, 5)]:
            for thing in no_probes(len(machine[0])):
                with self.subTest(label(thing)), self.assertRaises(NoProbe):
                    run(machine, thing)


class WhatIsTold(unittest.TestCase):
    def test_lists_are_new_and_nothing_is_changed(self):
        machine = drawn_machine(1, 6, 3, [0, 1])
        for probe in [[], [0], [2, 1, 0, 1]]:
            kept = copy.deepcopy((machine, probe))
            answers, end = walk(machine, 3, probe)
            self.assertFalse(shares_lists((answers, run(machine, probe)), (machine, probe)))
            answers.append(99)
            run(machine, probe).append(99)
            self.assertEqual((machine, probe), kept)
            self.assertEqual(walk(machine, 3, probe), (answers[:-1], end))

    def test_what_is_done_afterwards_changes_nothing(self):
        machine = copy.deepcopy(PAIR)
        probe = [0, 1]
        told = walk(machine, 0, probe), run(machine, probe)
        machine[1][1] = (55, 0)
        probe.clear()
        self.assertEqual(told, (([0, 1], 1), [0, 1]))

    def test_a_refusal_changes_nothing(self):
        machine = copy.deepcopy(PAIR)
        probe = [0, 1, 2]
        with self.assertRaises(NoProbe):
            walk(machine, 0, probe)
        self.assertEqual((machine, probe), (PAIR, [0, 1, 2]))

    def test_machines_somewhat_beyond_the_bounds_are_walked(self):
        machine = drawn_machine(3, 40, 8, [10 ** 80, -3])
        probe = list(range(8)) * 4
        self.assertEqual(walk(machine, 35, probe), walked(machine, 35, probe))


if __name__ == "__main__":
    unittest.main()
