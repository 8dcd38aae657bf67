import copy
import random
import unittest

from probewell.errors import NoProbe
from probewell.homing import ends, home, homed, tells_end
from probewell.merging import classes
from things import (all_machines, chain, doubled, drawn_machine, even_machine, label, large_machines, no_probes,
                    probes_up_to, shares_lists, sights, small_machines, told_by_pairs, walked)

LONGEST = int("9" * 60)
PAIR = [[(0, 1), (1, 0)], [(-7, 0), (1, 1)]]
HOMED_BY_ANSWERS = [[(0, 1), (1, 0)], [(0, 2), (0, 0)], [(5, 0), (0, 2)]]


def ends_by_states(machine, probe):
    walks = [walked(machine, state, probe) for state in range(len(machine))]
    found = []
    for answers in sorted(answers for answers, end in walks):
        if answers not in [told for told, states in found]:
            found.append((answers, sorted({end for told, end in walks if told == answers})))
    return found


def tells_end_by_pairs(machine, probe, kinds):
    """Kinds tell, of each state, to which class it belongs."""
    walks = [walked(machine, state, probe) for state in range(len(machine))]
    return all(kinds[end] == kinds[other] for answers, end in walks for beside, other in walks if answers == beside)


def kinds_by_sights(machine):
    seen = sights(machine)
    return [seen.index(sight) for sight in seen]


def kinds_by_pairs(machine):
    kinds = []
    for state in range(len(machine)):
        kinds.append(min(other for other in range(state + 1) if told_by_pairs(machine, other, state) is None))
    return kinds


def drawn_probe(draw, length, asks):
    return [draw.randrange(asks) for place in range(length)]


def all_alike(states, asks):
    return [[(LONGEST, (state * 7 + ask) % states) for ask in range(asks)] for state in range(states)]


class Ends(unittest.TestCase):
    def test_small_machines_by_small_probes(self):
        for machine in small_machines():
            for probe in probes_up_to(3, len(machine[0])):
                self.assertEqual(ends(machine, probe), ends_by_states(machine, probe), (machine, probe))

    def test_large_machines(self):
        draw = random.Random(1)
        for machine in large_machines():
            for length in [0, 1, 2, 5, 40]:
                probe = drawn_probe(draw, length, len(machine[0]))
                self.assertEqual(ends(machine, probe), ends_by_states(machine, probe))

    def test_an_ordinary_machine(self):
        self.assertEqual(ends(PAIR, [1]), [([1], [0, 1])])
        self.assertEqual(ends(PAIR, [0]), [([-7], [0]), ([0], [1])])
        self.assertEqual(ends(HOMED_BY_ANSWERS, [0]), [([0], [1, 2]), ([5], [0])])

    def test_they_are_tuples_of_lists_in_a_list(self):
        told = ends(PAIR, [0])
        self.assertEqual([type(told)] + [type(one) for one in told], [list, tuple, tuple])
        self.assertEqual([type(part) for one in told for part in one], [list] * 4)

    def test_the_empty_probe_ends_everywhere(self):
        for machine in large_machines() + [PAIR]:
            self.assertEqual(ends(machine, []), [([], list(range(len(machine))))])

    def test_the_states_rise_and_stand_once(self):
        machine = [[(0, 3)], [(0, 1)], [(0, 3)], [(0, 1)], [(0, 0)]]
        self.assertEqual(ends(machine, [0]), [([0], [0, 1, 3])])
        self.assertEqual(ends(machine, [0, 0]), [([0, 0], [1, 3])])

    def test_the_lists_of_answers_rise_by_the_first_unlike_answer(self):
        machine = [[(2, 1)], [(-3, 2)], [(10, 3)], [(2, 2)], [(-20, 0)], [(2, 4)]]
        self.assertEqual([answers for answers, states in ends(machine, [0, 0])],
                         [[-20, 2], [-3, 10], [2, -20], [2, -3], [2, 10], [10, 2]])

    def test_numbers_are_compared_not_their_texts(self):
        machine = [[(LONGEST, 0)], [(9, 1)], [(10, 2)], [(-LONGEST, 3)], [(-9, 4)], [(-10, 5)], [(LONGEST - 1, 6)]]
        self.assertEqual(ends(machine, [0]), [([-LONGEST], [3]), ([-10], [5]), ([-9], [4]), ([9], [1]), ([10], [2]),
                                              ([LONGEST - 1], [6]), ([LONGEST], [0])])

    def test_equal_answers_by_the_way_of_unlike_states_are_one_list(self):
        self.assertEqual(ends([[(0, 1)], [(0, 0)]], [0] * 5), [([0] * 5, [0, 1])])

    def test_the_longest_probe(self):
        draw = random.Random(6)
        for machine in [even_machine(30, 5), chain(30), even_machine(1, 5), all_alike(30, 5)]:
            for length in (12999, 13000):
                probe = drawn_probe(draw, length, len(machine[0]))
                # Not assertEqual, which takes very long to write down how such long lists are unlike.
                self.assertTrue(ends(machine, probe) == ends_by_states(machine, probe))
            with self.assertRaises(NoProbe):
                ends(machine, probe + [0])


class Homed(unittest.TestCase):
    def test_the_states_that_stand_beside_the_answers(self):
        for machine in small_machines()[::5] + large_machines():
            for probe in list(probes_up_to(2, len(machine[0])))[:12]:
                for answers, states in ends_by_states(machine, probe):
                    self.assertEqual(homed(machine, probe, answers), states)

    def test_none_where_no_state_gives_them(self):
        for answers in [[], [1], [1, 1, 1], [0], [-7], [0, 0], [0, -7, 0], [LONGEST, 0], [5, 5], [0] * 13000]:
            self.assertEqual(homed(PAIR, [0, 0], answers), [])
        for answers in [[0], [1], [0] * 13001]:
            self.assertEqual(homed(PAIR, [], answers), [])

    def test_each_list_of_answers(self):
        for machine in small_machines()[::40]:
            values = sorted({answer for row in machine for answer, after in row})
            for probe in list(probes_up_to(2, len(machine[0])))[:10]:
                told = dict((tuple(answers), states) for answers, states in ends_by_states(machine, probe))
                for places in probes_up_to(3, len(values)):
                    answers = [values[place] for place in places]
                    self.assertEqual(homed(machine, probe, answers), told.get(tuple(answers), []))

    def test_the_empty_probe(self):
        self.assertEqual(homed(PAIR, [], []), [0, 1])
        self.assertEqual(homed(even_machine(30, 5), [], []), list(range(30)))

    def test_the_longest_probe(self):
        for state in (0, 29):
            probe = [4, 0, 3, 1, 2] * 2600
            machine = even_machine(30, 5)
            answers, end = walked(machine, state, probe)
            self.assertEqual(homed(machine, probe, answers), [end])
            self.assertEqual(homed(machine, probe, answers[:-1]), [])
            self.assertEqual(homed(machine, probe, answers[:-1] + [answers[-1] + 1]), [])
            with self.assertRaises(NoProbe):
                homed(machine, probe + [0], answers + [0])

    def test_long_answers(self):
        machine = [[(LONGEST, 1)], [(-LONGEST, 0)], [(LONGEST - 1, 2)]]
        self.assertEqual(homed(machine, [0, 0], [LONGEST, -LONGEST]), [0])
        self.assertEqual(homed(machine, [0], [int("9" * 60)]), [1])
        self.assertEqual(homed(machine, [0], [LONGEST - 2]), [])


class TellsEnd(unittest.TestCase):
    def test_small_machines_by_small_probes(self):
        for machine in small_machines():
            kinds = kinds_by_sights(machine)
            for probe in probes_up_to(3, len(machine[0])):
                self.assertIs(tells_end(machine, probe), tells_end_by_pairs(machine, probe, kinds), (machine, probe))

    def test_large_machines(self):
        draw = random.Random(4)
        for machine in large_machines():
            kinds = kinds_by_pairs(machine)
            for length in [0, 1, 2, 4, 8, 30]:
                probe = drawn_probe(draw, length, len(machine[0]))
                self.assertIs(tells_end(machine, probe), tells_end_by_pairs(machine, probe, kinds))

    def test_alike_states_at_the_end_need_not_be_one_state(self):
        machine = [[(0, 1)], [(0, 0)], [(1, 0)], [(1, 1)]]
        self.assertIs(tells_end(machine, [0]), True)
        self.assertEqual(ends(machine, [0]), [([0], [0, 1]), ([1], [0, 1])])

    def test_unlike_states_behind_equal_answers(self):
        self.assertIs(tells_end(HOMED_BY_ANSWERS, [0]), False)
        self.assertIs(tells_end(HOMED_BY_ANSWERS, [0, 0]), True)

    def test_all_lists_must_be_of_alike_states(self):
        # Behind the answer 0 one state stands, behind the answer 1 two unlike ones.
        self.assertIs(tells_end([[(0, 0)], [(1, 0)], [(1, 1)]], [0]), False)
        self.assertIs(tells_end([[(1, 0)], [(0, 0)], [(0, 1)]], [0]), False)

    def test_one_state_is_enough_though_no_answer_tells(self):
        # The ask 0 answers nothing of use, but leads all states to one.
        self.assertIs(tells_end([[(0, 1), (0, 0)], [(0, 1), (1, 0)], [(0, 1), (2, 2)]], [0]), True)

    def test_the_empty_probe_tells_it_just_where_all_states_are_alike(self):
        for machine in large_machines() + small_machines()[::3]:
            self.assertIs(tells_end(machine, []), len(set(kinds_by_pairs(machine))) == 1)

    def test_the_longest_probe(self):
        for machine in [even_machine(30, 5), chain(30), even_machine(1, 5), all_alike(30, 5)]:
            probe = [len(machine[0]) - 1] * 13000
            self.assertIs(tells_end(machine, probe), True)
            with self.assertRaises(NoProbe):
                tells_end(machine, probe + [0])
        self.assertIs(tells_end([[(0, 1), (0, 0)], [(0, 0), (1, 0)]], [0] * 13000), False)


class Home(unittest.TestCase):
    def hold(self, machine, kinds):
        probe = home(machine)
        many = len(set(kinds))
        self.assertIsInstance(probe, list)
        self.assertTrue(all(type(ask) is int and 0 <= ask < len(machine[0]) for ask in probe))
        self.assertTrue(tells_end_by_pairs(machine, probe, kinds), (machine, probe))
        self.assertLessEqual(len(probe), (many - 1) * (many - 1))
        self.assertIs(tells_end(machine, probe), True)

    def test_small_machines(self):
        for machine in small_machines() + list(all_machines(3, 2, [0, 1]))[::23]:
            self.hold(machine, kinds_by_sights(machine))

    def test_large_machines(self):
        for machine in large_machines():
            self.hold(machine, kinds_by_pairs(machine))

    def test_the_bound_counts_classes_not_states(self):
        draw = random.Random(9)
        for seed in range(30):
            machine = drawn_machine(seed, 1 + seed % 3, 1 + seed % 5, [0, 0, 0, 1])
            for turn in range(3):
                machine = doubled(machine, draw)
            self.hold(machine, kinds_by_pairs(machine))

    def test_machines_with_few_unlike_answers(self):
        for seed in range(40):
            machine = drawn_machine(seed, 5 + seed % 26, 1 + seed % 5, [0])
            machine[seed % len(machine)][0] = (1, 0)
            self.hold(machine, kinds_by_pairs(machine))

    def test_the_empty_probe_alone_where_all_states_are_alike(self):
        for states, asks in [(1, 1), (1, 5), (2, 1), (30, 1), (30, 5)]:
            self.assertEqual(home(all_alike(states, asks)), [])

    def test_two_classes_by_one_ask(self):
        self.assertEqual(home(PAIR), [0])
        self.assertEqual(home([[(0, 0), (0, 0), (3, 0)], [(0, 1), (0, 1), (4, 2)], [(0, 2), (0, 2), (4, 1)]]), [2])

    def test_states_told_apart_by_long_probes(self):
        for asks in (1, 5):
            for states in (2, 3, 29, 30):
                self.hold(chain(states, asks), list(range(states)))

    def test_states_that_no_probe_leads_to_count(self):
        self.assertEqual(home([[(0, 0)], [(1, 1)]]), [0])


class Refused(unittest.TestCase):
    def test_what_is_no_probe(self):
        for machine in [even_machine(1, 1), PAIR, even_machine(30, 5)]:
            for thing in no_probes(len(machine[0])):
                for ask in (ends, tells_end, lambda one, probe: homed(one, probe, [])):
                    with self.subTest(label(thing)), self.assertRaises(NoProbe):
                        ask(machine, thing)

    def test_whatever_the_answers_are(self):
        for answers in [[], [0], [1, 1], [0] * 13001]:
            for thing in [None, [2], [0, -1], (0,), [True], [0] * 13001, "0"]:
                with self.subTest(label(thing)), self.assertRaises(NoProbe):
                    homed(PAIR, thing, answers)

    def test_it_changes_nothing(self):
        machine, probe, answers = copy.deepcopy(PAIR), [0, 2], [0, 0]
        for ask in (ends, tells_end, lambda one, asked: homed(one, asked, answers)):
            with self.assertRaises(NoProbe):
                ask(machine, probe)
        self.assertEqual((machine, probe, answers), (PAIR, [0, 2], [0, 0]))


class WhatIsTold(unittest.TestCase):
    def test_lists_are_new_and_nothing_is_changed(self):
        for machine in [PAIR, chain(30, 5), even_machine(30, 5), [[(0, 0)]] * 5, drawn_machine(2, 9, 2, [0, 1])]:
            for probe in [[], [0], [0, 0, 0]]:
                answers = walked(machine, 0, probe)[0]
                kept = copy.deepcopy((machine, probe, answers))
                told = [(ends(machine, probe), homed(machine, probe, answers), home(machine),
                         homed(machine, probe, [99])) for turn in range(2)]
                tells_end(machine, probe)
                self.assertFalse(shares_lists(told, [machine, probe, answers]))
                self.assertEqual((machine, probe, answers), kept)
                told[0][0][0][0].append(77)
                told[0][0][0][1].append(77)
                for one in told[0]:
                    one.append(77)
                self.assertEqual((ends(machine, probe), homed(machine, probe, answers), home(machine),
                                  homed(machine, probe, [99])), told[1])

    def test_what_is_done_afterwards_changes_nothing(self):
        machine, probe, answers = copy.deepcopy(PAIR), [0], [0]
        told = ends(machine, probe), homed(machine, probe, answers), home(machine)
        machine[0][0] = (55, 0)
        machine.pop()
        probe.append(1)
        answers.clear()
        self.assertEqual(told, ([([-7], [0]), ([0], [1])], [1], [0]))

    def test_machines_somewhat_beyond_the_bounds(self):
        for machine in [chain(40, 7), drawn_machine(8, 37, 6, [10 ** 80, 10 ** 80 + 1])]:
            probe = home(machine)
            self.assertTrue(tells_end_by_pairs(machine, probe, kinds_by_pairs(machine)))
            self.assertLessEqual(len(probe), (len(classes(machine)) - 1) ** 2)
            self.assertEqual(ends(machine, probe), ends_by_states(machine, probe))


if __name__ == "__main__":
    unittest.main()
