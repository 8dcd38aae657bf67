import copy
import random
import unittest

from probewell.books import book
from probewell.errors import NoSize, TooMuch
from probewell.likeness import compare
from probewell.merging import least
from probewell.sizes import book_size
from things import (LONGEST, all_machines, bare_things, chain, doubled, drawn_machine, even_machine, label,
                    large_machines, list_things, moved, probes_up_to, shares_lists, small_machines, told_by_pairs,
                    tuple_things, walked)

TWO = [[(0, 1), (1, 0)], [(-7, 0), (1, 1)]]


def first_ways(machine):
    met = {0: []}
    for state in (waiting := [0]):
        for ask, (answer, after) in enumerate(machine[state]):
            if after not in met:
                met[after] = met[state] + [ask]
                waiting.append(after)
    return met


def book_by_words(machine, most):
    """The book by the words of the point, from the least machine on."""
    small = least(machine)
    extra = most - len(small) if most >= len(small) else 0
    apart = [[told_by_pairs(small, one, other) for other in range(len(small))] for one in range(len(small))]
    marks = [[mark for mark in row if mark is not None] or [[]] for row in apart]
    probes = []
    for state, way in first_ways(small).items():
        for row in probes_up_to(extra + 1, len(small[0])):
            for mark in marks[walked(small, state, row)[1]]:
                probes.append(tuple(way + row + mark))
    ordered = sorted(set(probes), key=lambda probe: (len(probe), probe))
    return [(list(probe), walked(machine, 0, probe)[0]) for probe in ordered]


def size_for(machine, most):
    many = len(least(machine))
    return book_size(many, len(machine[0]), max(most - many, 0))


def no_sizes():
    """Things of every kind that are no whole numbers from 1 to 30."""
    return bare_things() + list_things() + tuple_things() + [0, -1, 31, 32, -30, 10 ** 60, 10 ** 6000, -(10 ** 6000),
                                                             "1", [1], (1,), 30.0, 1.5]


def passed(some, machine):
    return all(walked(machine, 0, probe)[0] == answers for probe, answers in some)


class Book(unittest.TestCase):
    def test_small_machines_by_the_words_of_the_point(self):
        for machine in small_machines():
            for most in (1, 2, 3, 4):
                if size_for(machine, most) <= 1000:
                    self.assertEqual(book(machine, most), book_by_words(machine, most), (machine, most))

    def test_large_machines_by_the_words_of_the_point(self):
        taken = 0
        for machine in large_machines() + [drawn_machine(seed, 9, 5, [0, 1]) for seed in range(3)]:
            for most in (1, 9, 10, 25, 30):
                if size_for(machine, most) > 3000:
                    self.assertRaises(TooMuch, book, machine, most)
                else:
                    taken += 1
                    self.assertTrue(book(machine, most) == book_by_words(machine, most))
        self.assertGreater(taken, 20)

    def test_an_ordinary_machine(self):
        self.assertEqual(book(TWO, 2), [
            ([0], [0]), ([0, 0], [0, -7]), ([1, 0], [1, 0]), ([0, 0, 0], [0, -7, 0]), ([0, 1, 0], [0, 1, -7])])

    def test_one_state_too_many(self):
        self.assertEqual([probe for probe, answers in book(TWO, 3)], [
            [0], [0, 0], [1, 0], [0, 0, 0], [0, 1, 0], [1, 0, 0], [1, 1, 0],
            [0, 0, 0, 0], [0, 0, 1, 0], [0, 1, 0, 0], [0, 1, 1, 0]])

    def test_one_state(self):
        self.assertEqual(book([[(5, 0)]], 1), [([], []), ([0], [5])])
        self.assertEqual(book([[(5, 0)]], 30), [([0] * many, [5] * many) for many in range(31)])
        self.assertEqual(book([[(5, 0), (6, 0)]], 1), [([], []), ([0], [5]), ([1], [6])])
        self.assertEqual(len(book(even_machine(1, 5), 4)), 781)
        self.assertRaises(TooMuch, book, even_machine(1, 5), 5)

    def test_it_is_in_order_each_probe_once(self):
        for machine in small_machines()[::3] + [chain(25, 4), chain(30), even_machine(7, 5)]:
            keys = [(len(probe), probe) for probe, answers in book(machine, 2)]
            self.assertTrue(all(one < other for one, other in zip(keys, keys[1:])))

    def test_it_has_no_more_probes_than_its_size(self):
        for machine in small_machines() + [chain(25, 4), chain(30), chain(30, 2)]:
            for most in (1, 3, 30):
                if size_for(machine, most) <= 3000:
                    self.assertLessEqual(len(book(machine, most)), size_for(machine, most))

    def test_a_most_below_the_number_of_states(self):
        for machine in [TWO, chain(25, 4), chain(30), drawn_machine(2, 6, 2, [0, 1])]:
            many = len(least(machine))
            for most in range(1, many):
                self.assertTrue(book(machine, most) == book(machine, many))

    def test_the_states_of_the_least_machine_count(self):
        self.assertEqual(book([[(5, 29)]] * 30, 1), [([], []), ([0], [5])])
        self.assertEqual(book([[(5, 7)] * 5 for state in range(30)], 4), book([[(5, 0)] * 5], 4))
        # The last state is not reached.
        self.assertEqual(book(TWO + [[(3, 2), (4, 2)]], 2), book(TWO, 2))

    def test_alike_machines_have_equal_books(self):
        draw = random.Random(7)
        for seed in range(12):
            machine = drawn_machine(seed, 6, 2, [0, 1])
            order = [0] + draw.sample(range(1, 6), 5)
            told = book(machine, len(least(machine)) + seed % 3)
            self.assertEqual(book(moved(machine, order), len(least(machine)) + seed % 3), told)
            self.assertEqual(book(doubled(machine, draw), len(least(machine)) + seed % 3), told)

    def test_answers_of_sixty_figures(self):
        machine = [[(LONGEST, 1)], [(-LONGEST, 0)]]
        self.assertEqual(book(machine, 2), [
            ([0], [LONGEST]), ([0, 0], [LONGEST, -LONGEST]), ([0, 0, 0], [LONGEST, -LONGEST, LONGEST])])

    def test_the_longest_probes(self):
        # Only the last state of the ring answers otherwise, so that the first two are told apart there.
        ring = [[(1 if state == 29 else 0, (state + 1) % 30)] for state in range(30)]
        told = book(ring, 30)
        self.assertEqual(max(len(probe) for probe, answers in told), 29 + 1 + 29)
        self.assertTrue(told == book_by_words(ring, 30))
        self.assertEqual(max(len(probe) for probe, answers in book(chain(2), 30)), 1 + 29 + 1)

    def test_as_many_answers_as_asks(self):
        for machine in small_machines()[::5]:
            for probe, answers in book(machine, 2):
                self.assertEqual(len(probe), len(answers))


class Promise(unittest.TestCase):
    def test_other_machines_pass_just_where_they_are_alike(self):
        for asks, most in [(1, 1), (1, 2), (1, 3), (2, 1), (2, 2)]:
            others = [other for many in range(1, most + 1) for other in all_machines(many, asks, [0, 1])]
            kinds = set()
            for machine in others[::7] if len(others) > 200 else others:
                told = book(machine, most)
                for other in others:
                    kinds.add(passed(told, other))
                    self.assertEqual(passed(told, other), compare(machine, other)[0] == "alike", (machine, other))
            self.assertEqual(kinds, {True, False})

    def test_other_machines_of_one_state_more(self):
        others = list(all_machines(3, 1, [0, 1])) + [drawn_machine(seed, 3, 2, [0, 1]) for seed in range(400)]
        for machine in list(all_machines(2, 1, [0, 1])) + [drawn_machine(seed, 2, 2, [0, 1]) for seed in range(8)]:
            told = book(machine, 3)
            for other in others:
                if len(other[0]) == len(machine[0]):
                    self.assertEqual(passed(told, other), compare(machine, other)[0] == "alike")

    def test_machines_that_are_changed_at_one_place(self):
        draw = random.Random(2)
        for seed in range(40):
            machine = drawn_machine(seed, 5, 2, [0, 1])
            told = book(machine, max(5, len(least(machine))))
            for many in range(20):
                other = copy.deepcopy(machine)
                other[draw.randrange(5)][draw.randrange(2)] = (draw.randrange(2), draw.randrange(5))
                self.assertEqual(passed(told, other), compare(machine, other)[0] == "alike")


class Refusals(unittest.TestCase):
    def test_no_size(self):
        for machine in [TWO, [[(0, 0)]], chain(30), even_machine(1, 5)]:
            for thing in no_sizes():
                with self.subTest(label(thing)):
                    self.assertRaises(NoSize, book, machine, thing)

    def test_no_size_goes_before_too_much(self):
        for machine in [chain(30, 5), chain(30, 3), even_machine(30, 5)]:
            self.assertRaises(TooMuch, book, machine, 1)
            self.assertRaises(TooMuch, book, machine, 30)
            for thing in no_sizes():
                with self.subTest(label(thing)):
                    self.assertRaises(NoSize, book, machine, thing)

    def test_sizes_of_three_thousand_and_above(self):
        # Of 25 states and 4 asks 3,000; of 25 states, 1 ask and 3 too many the same.
        self.assertTrue(book(chain(25, 4), 25) == book_by_words(chain(25, 4), 25))
        self.assertTrue(book(chain(25, 4), 1) == book_by_words(chain(25, 4), 1))
        self.assertTrue(book(chain(25), 28) == book_by_words(chain(25), 28))
        self.assertRaises(TooMuch, book, chain(25, 4), 26)
        self.assertRaises(TooMuch, book, chain(25), 29)
        # Of 28 states and 3 asks 3,024; of 28 states, 1 ask and 2 too many the same.
        for most in (1, 27, 28, 29, 30):
            self.assertRaises(TooMuch, book, chain(28, 3), most)
        self.assertRaises(TooMuch, book, chain(28), 30)
        self.assertTrue(book(chain(28), 29) == book_by_words(chain(28), 29))

    def test_the_size_counts_not_the_probes(self):
        # The book itself would have fewer probes, for many are made twice.
        self.assertGreater(size_for(chain(28), 30), 3000)
        self.assertLess(len(book_by_words(chain(28), 30)), 3000)
        self.assertRaises(TooMuch, book, chain(28), 30)

    def test_the_greatest_sizes(self):
        self.assertRaises(TooMuch, book, even_machine(1, 5), 30)
        self.assertRaises(TooMuch, book, chain(30, 5), 30)
        self.assertEqual(len(book([[(0, 0)]], 30)), 31)


class WhatIsTold(unittest.TestCase):
    def test_lists_are_new_and_nothing_is_changed(self):
        for machine, most in [(TWO, 3), ([[(0, 0)]] * 30, 4), (chain(7, 2), 7), (even_machine(1, 5), 3)]:
            kept = copy.deepcopy(machine)
            told, again = book(machine, most), book(machine, most)
            self.assertFalse(shares_lists([told, again], machine))
            for probe, answers in told:
                probe.append(3)
                answers.append(3)
            told.append(3)
            self.assertEqual(book(machine, most), again)
            self.assertEqual(machine, kept)

    def test_what_is_done_afterwards_changes_nothing(self):
        machine = copy.deepcopy(TWO)
        told = book(machine, 2)
        machine[0][0] = (9, 0)
        machine.pop()
        self.assertEqual(told, book_by_words(TWO, 2))

    def test_kinds(self):
        told = book(TWO, 2)
        self.assertEqual([type(told), type(told[0]), type(told[0][0]), type(told[0][1])], [list, tuple, list, list])

    def test_machines_somewhat_beyond_the_bounds(self):
        self.assertTrue(book(chain(36), 3) == book_by_words(chain(36), 3))
        machine = drawn_machine(1, 4, 7, [10 ** 70, 0])
        self.assertEqual(book(machine, 4), book_by_words(machine, 4))


if __name__ == "__main__":
    unittest.main()
