import copy
import random
import unittest

from probewell.errors import NoState, TooMuch, Unfit
from probewell.trees import began, depth, stuck, tree, tree_of
from things import (LONGEST, all_machines, all_sets, chain, drawn_machine, even_machine, label, late_joining,
                    no_numbers_below, no_sets, probes_up_to, rings_apart, shares_lists, small_machines, walked)

# The ask 0 spoils every set with 0 and 1; the ask 1 tells 0 from the others.
ORDINARY = [[(0, 0), (1, 1)], [(0, 0), (0, 2)], [(1, 0), (0, 0)]]
# The set of 1, 3, 4, 5 and 6 needs 31 asks.
DEEP = [[(0, 6), (0, 0)], [(0, 0), (0, 1)], [(0, 5), (0, 2)], [(0, 2), (0, 0)], [(0, 3), (1, 6)], [(0, 4), (0, 1)],
        [(0, 1), (0, 3)]]


def parts_behind(machine, states, ask):
    """For each answer the rising list of next states, rising by the answers; None where the ask spoils the states."""
    steps = [machine[state][ask] for state in states]
    if len(set(steps)) < len(steps):
        return None
    return [(answer, sorted(after for told, after in steps if told == answer))
            for answer in sorted({told for told, after in steps})]


class Words:
    """Depths and trees by the words of the points, set by set and number by number."""

    def __init__(self, machine):
        self.machine = machine
        self.asked = {}

    def told_by(self, states, asks):
        if len(states) == 1:
            return True
        if asks == 0:
            return False
        key = tuple(states), asks
        if key not in self.asked:
            self.asked[key] = any(self.attains(states, ask, asks) for ask in range(len(self.machine[0])))
        return self.asked[key]

    def attains(self, states, ask, asks):
        parts = parts_behind(self.machine, states, ask)
        return parts is not None and all(self.told_by(part, asks - 1) for answer, part in parts)

    def depth(self, states):
        for asks in range(2 ** len(self.machine)):
            if self.told_by(states, asks):
                return asks
        return None

    def tree(self, states):
        if self.depth(states) is None:
            return None
        return self.grown({state: state for state in states})

    def grown(self, begun):
        states = sorted(begun)
        if len(states) == 1:
            return begun[states[0]]
        asks = self.depth(states)
        ask = min(ask for ask in range(len(self.machine[0])) if self.attains(states, ask, asks))
        branches = []
        for answer in sorted({self.machine[state][ask][0] for state in states}):
            held = [state for state in states if self.machine[state][ask][0] == answer]
            branches.append((answer, self.grown({self.machine[state][ask][1]: begun[state] for state in held})))
        return ask, branches


def leaf_reached(found, machine, state):
    while isinstance(found, tuple):
        answer, after = machine[state][found[0]]
        found = [inner for told, inner in found[1] if told == answer][0]
        state = after
    return found


def leaves(found):
    if not isinstance(found, tuple):
        return [found]
    return [leaf for answer, inner in found[1] for leaf in leaves(inner)]


def depth_by_recursion(found):
    if not isinstance(found, tuple):
        return 0
    return 1 + max(depth_by_recursion(inner) for answer, inner in found[1])


def drawn_tree(draw, nested):
    if nested == 0 or draw.random() < 0.25:
        return draw.randrange(30)
    answers = sorted(draw.sample(range(-9, 10), draw.randrange(1, 4)))
    return draw.randrange(5), [(answer, drawn_tree(draw, nested - 1)) for answer in answers]


def line_tree(nested, leaf=0):
    """Each tree has one branch, and beside it a leaf at each other nesting."""
    found = leaf
    for many in range(nested):
        found = (many % 5, [(-1, found)] + [(0, 3)] * (many % 2))
    return found


def up_to_seven():
    found = [ORDINARY, DEEP, chain(7), chain(7, 5), even_machine(7, 5), even_machine(7, 1), even_machine(1, 1)]
    found += [even_machine(1, 5), late_joining(7), rings_apart(7, 5), rings_apart(7, 1), [[(0, 0)]] * 7]
    for seed in range(8):
        found.append(drawn_machine(seed, 7, 5, [0, 1]))
        found.append(drawn_machine(seed, 7, 5, [0, 0, 0, 0, 0, 0, 0, 1]))
        found.append(drawn_machine(seed, 7, 3, [LONGEST, -LONGEST, 0]))
        found.append(drawn_machine(seed, 7, 1, [0, 1, 2, 3, 4, 5, 6]))
        found.append(led_round(seed, 7, 4))
    return found


def led_round(seed, states, asks):
    """Each ask leads to each state, and few answers are unlike: deep trees, and little that is spoiled."""
    draw = random.Random(seed)
    orders = [draw.sample(range(states), states) for ask in range(asks)]
    found = [[(0, order[state]) for order in orders] for state in range(states)]
    for ask in range(asks):
        if draw.random() < 0.6:
            state = draw.randrange(states)
            found[state][ask] = (1, found[state][ask][1])
    return found


class TreeOf(unittest.TestCase):
    def test_small_machines_by_the_words_of_the_points(self):
        for machine in small_machines():
            words = Words(machine)
            for states in all_sets(machine):
                self.assertEqual(tree_of(machine, states), words.tree(states), (machine, states))

    def test_machines_up_to_seven_states(self):
        depths, firsts = set(), set()
        for machine in up_to_seven():
            words = Words(machine)
            for states in all_sets(machine)[::3] + [list(range(len(machine)))]:
                told = tree_of(machine, states)
                self.assertEqual(told, words.tree(states), (machine, states))
                if isinstance(told, tuple):
                    depths.add(depth(told))
                    firsts.add(told[0])
        self.assertLessEqual(set(range(1, 8)), depths)
        self.assertEqual(firsts, {0, 1, 2, 3, 4})

    def test_ordinary_sets(self):
        self.assertEqual(tree_of(ORDINARY, [0, 1, 2]), (1, [(0, (0, [(0, 2), (1, 1)])), (1, 0)]))
        self.assertEqual(tree_of(ORDINARY, [1, 2]), (0, [(0, 1), (1, 2)]))
        self.assertEqual(tree_of(ORDINARY, [0, 1]), (1, [(0, 1), (1, 0)]))

    def test_a_set_of_one_state_is_a_leaf(self):
        for machine in [ORDINARY, DEEP, [[(0, 0)]] * 7, even_machine(1, 5), rings_apart(7, 5)]:
            for state in range(len(machine)):
                self.assertEqual(tree_of(machine, [state]), state)

    def test_sets_that_every_ask_spoils(self):
        machine = [[(0, 0), (0, 1)], [(0, 0), (0, 1)], [(1, 0), (0, 1)]]
        self.assertIsNone(tree_of(machine, [0, 1]))
        self.assertIsNone(tree_of(machine, [0, 1, 2]))
        self.assertEqual(tree_of(machine, [1, 2]), (0, [(0, 1), (1, 2)]))

    def test_sets_that_no_ask_spoils_and_nothing_tells(self):
        self.assertIsNone(tree_of(rings_apart(7, 5), [0, 1]))
        self.assertIsNone(tree_of([[(0, 1)], [(0, 0)]], [0, 1]))

    def test_an_ask_that_leads_to_a_spoiled_set_by_one_answer_only(self):
        # The ask 0 parts 2 from 0 and 1, but leads these to 3 and 4, which every ask spoils.
        machine = [[(0, 3), (0, 0)], [(0, 4), (0, 0)], [(1, 2), (1, 2)], [(0, 0), (0, 0)], [(0, 0), (0, 0)]]
        self.assertIsNone(tree_of(machine, [0, 1, 2]))
        self.assertEqual(tree_of(machine, [0, 2]), (0, [(0, 0), (1, 2)]))

    def test_the_least_ask_by_which_the_depth_is_attained(self):
        # The ask 0 leads to the same two states, so that one ask more is needed; 1 and 2 tell them at once.
        machine = [[(0, 1), (0, 0), (5, 0)], [(0, 0), (1, 0), (6, 0)]]
        self.assertEqual(tree(machine), (1, [(0, 0), (1, 1)]))
        # The ask 0 spoils.
        machine = [[(0, 1), (0, 0), (5, 0)], [(0, 1), (1, 0), (6, 0)]]
        self.assertEqual(tree(machine), (1, [(0, 0), (1, 1)]))

    def test_an_ask_that_parts_more_is_left_where_it_is_not_the_least(self):
        # The ask 1 tells all at once; the ask 0 parts only some, so that it takes one more.
        machine = [[(0, 0), (0, 0)], [(1, 1), (1, 0)], [(1, 2), (2, 0)]]
        self.assertEqual(tree(machine), (1, [(0, 0), (1, 1), (2, 2)]))
        # Of four states each ask parts some; the least one is asked, for both take two.
        machine = [[(0, 0), (0, 0)], [(0, 1), (1, 1)], [(1, 2), (0, 2)], [(1, 3), (1, 3)]]
        self.assertEqual(tree(machine), (0, [(0, (1, [(0, 0), (1, 1)])), (1, (1, [(0, 2), (1, 3)]))]))

    def test_branches_of_unlike_depths(self):
        # Where one branch takes two asks, in another the least ask of a set is still that of its own depth.
        machine = [[(0, 1), (0, 0), (9, 0)], [(0, 0), (1, 0), (9, 0)], [(1, 2), (0, 0), (9, 0)],
                   [(1, 4), (0, 0), (9, 1)], [(1, 3), (0, 0), (9, 2)]]
        words = Words(machine)
        for states in all_sets(machine):
            self.assertEqual(tree_of(machine, states), words.tree(states))

    def test_branches_rise_by_the_answers(self):
        machine = [[(LONGEST, 0)], [(-LONGEST, 0)], [(0, 0)], [(-1, 0)], [(10, 0)], [(9, 0)], [(-10, 0)]]
        self.assertEqual(tree(machine), (0, [(-LONGEST, 1), (-10, 6), (-1, 3), (0, 2), (9, 5), (10, 4), (LONGEST, 0)]))
        self.assertEqual(tree_of(machine, [0, 3, 6]), (0, [(-10, 6), (-1, 3), (LONGEST, 0)]))

    def test_a_branch_only_for_answers_that_a_state_of_the_set_gives(self):
        machine = [[(0, 0)], [(1, 1)], [(2, 2)]]
        self.assertEqual(tree_of(machine, [0, 2]), (0, [(0, 0), (2, 2)]))

    def test_leaves_tell_where_one_began_not_where_one_stands(self):
        machine = [[(0, 1)], [(0, 2)], [(1, 0)]]
        self.assertEqual(tree(machine), (0, [(0, (0, [(0, 0), (1, 1)])), (1, 2)]))

    def test_answers_of_sixty_figures_that_are_unlike_in_the_last_one(self):
        machine = [[(LONGEST, 0)], [(LONGEST - 1, 0)]]
        self.assertEqual(tree(machine), (0, [(LONGEST - 1, 1), (LONGEST, 0)]))

    def test_a_deep_tree(self):
        told = tree_of(DEEP, [1, 3, 4, 5, 6])
        self.assertEqual(depth(told), 31)
        self.assertEqual(told, Words(DEEP).tree([1, 3, 4, 5, 6]))

    def test_what_is_no_set_is_refused(self):
        for machine in [DEEP, rings_apart(7, 5), ORDINARY, even_machine(1, 5), [[(0, 0)]]]:
            for thing in no_sets(len(machine)):
                with self.subTest(label(thing)):
                    self.assertRaises(NoState, tree_of, machine, thing)

    def test_more_than_seven_states_are_refused_whatever_the_set(self):
        for machine in [even_machine(8, 1), rings_apart(30, 5), [[(0, 0)]] * 8]:
            for thing in no_sets(len(machine)) + [[0], [7], [0, 1], list(range(8)), list(range(len(machine)))]:
                with self.subTest(label(thing)):
                    self.assertRaises(TooMuch, tree_of, machine, thing)


class Tree(unittest.TestCase):
    def test_it_is_that_of_all_states(self):
        for machine in small_machines() + up_to_seven():
            self.assertEqual(tree(machine), tree_of(machine, list(range(len(machine)))))

    def test_it_leads_from_each_state_to_its_leaf(self):
        found = 0
        for machine in small_machines() + up_to_seven():
            told = tree(machine)
            if told is not None:
                found += 1
                states = list(range(len(machine)))
                self.assertEqual([leaf_reached(told, machine, state) for state in states], states)
                self.assertEqual(sorted(leaves(told)), states)
        self.assertGreater(found, 20)

    def test_there_is_one_just_where_no_set_is_stuck(self):
        kinds = set()
        for machine in small_machines() + up_to_seven():
            self.assertEqual(tree(machine) is None, stuck(machine) != [])
            kinds.add(tree(machine) is None)
        self.assertEqual(kinds, {True, False})

    def test_no_tree_is_less_deep(self):
        # One probe that all states answer unlike is a tree, too.
        for machine in [machine for machine in small_machines() if len(machine) <= 3]:
            states = range(len(machine))
            for probe in probes_up_to(4, len(machine[0])):
                if len({tuple(walked(machine, state, probe)[0]) for state in states}) == len(machine):
                    self.assertLessEqual(depth(tree(machine)), len(probe))
                    break

    def test_all_machines_of_two_states_and_two_asks(self):
        for machine in all_machines(2, 2, [0, 1]):
            at_once = [ask for ask in (0, 1) if machine[0][ask][0] != machine[1][ask][0]]
            if at_once:
                branches = sorted([(machine[0][at_once[0]][0], 0), (machine[1][at_once[0]][0], 1)])
                self.assertEqual(tree(machine), (at_once[0], branches))
            else:
                self.assertIsNone(tree(machine))

    def test_one_state(self):
        for asks in (1, 5):
            self.assertEqual(tree(even_machine(1, asks)), 0)

    def test_more_than_seven_states_are_refused(self):
        for machine in [even_machine(8, 5), chain(8), even_machine(30, 5), [[(0, 0)]] * 8, even_machine(31, 1)]:
            self.assertRaises(TooMuch, tree, machine)
        self.assertEqual(depth(tree(chain(7, 2))), depth(Words(chain(7, 2)).tree(list(range(7)))))


class Stuck(unittest.TestCase):
    def test_by_the_words_of_the_points(self):
        for machine in small_machines() + up_to_seven():
            words = Words(machine)
            self.assertEqual(stuck(machine), sorted(held for held in all_sets(machine) if words.depth(held) is None))

    def test_ordinary_machines(self):
        self.assertEqual(stuck(ORDINARY), [])
        machine = [[(0, 0), (0, 1)], [(0, 0), (0, 1)], [(1, 0), (0, 1)]]
        self.assertEqual(stuck(machine), [[0, 1], [0, 1, 2]])

    def test_they_rise_a_beginning_of_another_first(self):
        self.assertEqual(stuck([[(0, 0)], [(0, 0)], [(0, 0)]]), [[0, 1], [0, 1, 2], [0, 2], [1, 2]])
        told = stuck(rings_apart(7, 5))
        self.assertEqual(len(told), 120)
        self.assertEqual(told, sorted(told))
        self.assertEqual(told[:3], [[0, 1], [0, 1, 2], [0, 1, 2, 3]])
        self.assertEqual(told[-2:], [[4, 6], [5, 6]])

    def test_they_are_those_without_a_tree(self):
        for machine in up_to_seven()[::7]:
            self.assertEqual(stuck(machine), sorted(held for held in all_sets(machine)
                                                    if tree_of(machine, held) is None))

    def test_each_ask_spoils_one_or_leads_to_one(self):
        for machine in small_machines() + up_to_seven():
            told = stuck(machine)
            for states in told:
                for ask in range(len(machine[0])):
                    parts = parts_behind(machine, states, ask)
                    self.assertTrue(parts is None or any(part in told for answer, part in parts))

    def test_one_state(self):
        for asks in (1, 5):
            self.assertEqual(stuck(even_machine(1, asks)), [])

    def test_more_than_seven_states_are_refused(self):
        for machine in [even_machine(8, 5), chain(8), even_machine(30, 5), [[(0, 0)]] * 8, even_machine(31, 1)]:
            self.assertRaises(TooMuch, stuck, machine)


class Began(unittest.TestCase):
    def test_each_state_is_told(self):
        for machine in small_machines()[::2] + up_to_seven():
            for states in all_sets(machine)[::7] + [list(range(len(machine)))]:
                told = tree_of(machine, states)
                if told is not None:
                    self.assertEqual([began(told, machine, state) for state in states], states)

    def test_states_beside_the_set_are_led_somewhere_or_refused(self):
        kinds = set()
        for machine in up_to_seven():
            for states in all_sets(machine)[10:60:7]:
                told = tree_of(machine, states)
                for state in range(len(machine) if told is not None else 0):
                    try:
                        expected = leaf_reached(told, machine, state)
                    except IndexError:
                        self.assertRaises(Unfit, began, told, machine, state)
                        kinds.add("unfit")
                        continue
                    self.assertEqual(began(told, machine, state), expected)
                    kinds.add("leaf")
        self.assertEqual(kinds, {"unfit", "leaf"})

    def test_any_tree(self):
        draw = random.Random(3)
        for nested in range(12):
            machine = drawn_machine(nested, 30, 5, list(range(-9, 10)))
            found = drawn_tree(draw, nested)
            for state in range(30):
                try:
                    expected = leaf_reached(found, machine, state)
                except IndexError:
                    self.assertRaises(Unfit, began, found, machine, state)
                    continue
                self.assertEqual(began(found, machine, state), expected)

    def test_an_ordinary_tree_and_other_machines(self):
        found = (1, [(0, (0, [(0, 2), (1, 1)])), (1, 0)])
        self.assertEqual([began(found, ORDINARY, state) for state in range(3)], [0, 1, 2])
        self.assertEqual(began(found, [[(0, 0), (0, 0)]], 0), 2)
        self.assertRaises(Unfit, began, found, [[(0, 0), (2, 0)]], 0)
        self.assertRaises(Unfit, began, found, [[(7, 0), (0, 0)]], 0)
        # The answer that would have no branch is not given.
        self.assertEqual(began(found, [[(7, 0), (1, 0)]], 0), 0)

    def test_a_leaf_is_told_by_itself(self):
        self.assertEqual(began(4, ORDINARY, 2), 4)
        self.assertEqual(began(0, even_machine(30, 5), 29), 0)

    def test_the_leaf_0_is_no_lack(self):
        self.assertEqual(began((0, [(5, 0)]), [[(5, 0)]], 0), 0)

    def test_a_tree_without_branches_has_none_for_any_answer(self):
        self.assertRaises(Unfit, began, (0, []), [[(5, 0)]], 0)

    def test_machines_of_more_than_seven_states(self):
        machine = even_machine(30, 5)
        found = (0, [(0 - state, state) for state in range(29, -1, -1)])
        self.assertEqual([began(found, machine, state) for state in range(30)], list(range(30)))

    def test_answers_of_sixty_figures(self):
        found = (0, [(-LONGEST, 1), (LONGEST - 1, 2), (LONGEST, 0)])
        self.assertEqual(began(found, [[(int("9" * 60), 0)]], 0), 0)
        self.assertEqual(began(found, [[(int("-" + "9" * 60), 0)]], 0), 1)
        self.assertRaises(Unfit, began, found, [[(LONGEST - 2, 0)]], 0)

    def test_deep_trees(self):
        for nested in (100, 130):
            self.assertEqual(began(line_tree(nested, 9), [[(-1, 0)] * 5], 0), 9)

    def test_no_state_is_refused(self):
        for machine in [ORDINARY, even_machine(30, 5), [[(0, 0)]]]:
            for thing in no_numbers_below(len(machine)):
                for found in [0, (0, [(0, 0)]), (0, [(10 ** 59, 1)])]:
                    with self.subTest(label(thing)):
                        self.assertRaises(NoState, began, found, machine, thing)

    def test_no_state_goes_before_unfit(self):
        found = (0, [(8, 0)])
        self.assertRaises(Unfit, began, found, ORDINARY, 0)
        for thing in [3, -1, None, True, "0", [0], 0.0]:
            self.assertRaises(NoState, began, found, ORDINARY, thing)


class Depth(unittest.TestCase):
    def test_leaves(self):
        for leaf in (0, 1, 29, 30):
            self.assertEqual(depth(leaf), 0)

    def test_ordinary_trees(self):
        self.assertEqual(depth((0, [(0, 5)])), 1)
        self.assertEqual(depth((0, [(0, 5), (1, (3, [(0, 0), (7, 1)]))])), 2)
        self.assertEqual(depth((0, [(0, (3, [(0, 0), (7, 1)])), (1, 5)])), 2)
        self.assertEqual(depth((0, [(0, 1), (1, (2, [(4, (0, [(0, 3)]))])), (2, (1, [(0, 2)]))])), 3)

    def test_drawn_trees(self):
        draw = random.Random(1)
        depths = set()
        for nested in range(60):
            found = drawn_tree(draw, nested % 9)
            self.assertEqual(depth(found), depth_by_recursion(found))
            depths.add(depth(found))
        self.assertGreater(len(depths), 6)

    def test_the_depth_of_a_made_tree_is_that_of_its_set(self):
        for machine in small_machines() + up_to_seven():
            words = Words(machine)
            for states in all_sets(machine)[::5]:
                told = tree_of(machine, states)
                self.assertEqual(None if told is None else depth(told), words.depth(states))

    def test_trees_nested_a_hundred_deep(self):
        for nested in (99, 100, 101, 150):
            self.assertEqual(depth(line_tree(nested)), nested)
            self.assertEqual(depth((0, [(0, line_tree(nested - 2)), (1, line_tree(nested - 1))])), nested)
            self.assertEqual(depth((0, [(0, line_tree(nested - 1)), (1, line_tree(nested - 1))])), nested)
            self.assertEqual(depth((0, [(0, line_tree(nested - 1, 5)), (1, line_tree(nested - 1, 6))])), nested)

    def test_one_thing_at_very_many_places(self):
        found, beside = 0, 1
        for many in range(100):
            found, beside = (0, [(0, found), (1, beside), (2, found)]), (1, [(0, found), (1, beside)])
        self.assertEqual(depth(found), 100)
        self.assertEqual(depth(beside), 100)

    def test_wide_trees(self):
        found = (0, [(answer, (answer, [(0, answer), (1, answer + 1)])) for answer in range(1500)])
        self.assertEqual(depth(found), 2)
        self.assertEqual(depth((0, [(answer, 0) for answer in range(100000)])), 1)


class WhatIsTold(unittest.TestCase):
    def test_lists_are_new_and_nothing_is_changed(self):
        for machine in [ORDINARY, DEEP, rings_apart(7, 5), chain(7, 2), [[(0, 0)]] * 7, even_machine(7, 5)]:
            for states in [[0], [1, 2], list(range(len(machine)))]:
                kept = copy.deepcopy((machine, states))
                told = [tree_of(machine, states), tree(machine), stuck(machine)]
                again = [tree_of(machine, states), tree(machine), stuck(machine)]
                self.assertFalse(shares_lists(told + again, [machine, states]))
                told[2].append(3)
                for found in [part for part in told[:2] if isinstance(part, tuple)]:
                    found[1].append(3)
                for held in told[2][:-1]:
                    held.append(3)
                self.assertEqual([tree_of(machine, states), tree(machine), stuck(machine)], again)
                self.assertEqual((machine, states), kept)

    def test_no_list_stands_twice_in_a_deep_tree(self):
        self.assertFalse(shares_lists(tree_of(DEEP, [1, 3, 4, 5, 6]), DEEP))

    def test_trees_that_are_handed_in_stay(self):
        found = tree(ORDINARY)
        kept = copy.deepcopy(found)
        began(found, ORDINARY, 1)
        depth(found)
        self.assertRaises(Unfit, began, found, [[(7, 0), (0, 0)]], 0)
        self.assertEqual(found, kept)

    def test_what_is_done_afterwards_changes_nothing(self):
        machine, states = copy.deepcopy(ORDINARY), [0, 1]
        told = tree_of(machine, states), tree(machine), stuck(machine)
        kept = copy.deepcopy(told)
        machine[0][1] = (0, 0)
        machine.pop()
        states.append(9)
        self.assertEqual(told, kept)

    def test_kinds(self):
        told = tree(ORDINARY)
        self.assertEqual([type(told), type(told[0]), type(told[1]), type(told[1][0]), type(told[1][1][1])],
                         [tuple, int, list, tuple, int])
        told = stuck([[(0, 0)], [(0, 0)]])
        self.assertEqual([type(told), type(told[0]), type(told[0][0])], [list, list, int])

    def test_machines_somewhat_beyond_the_bounds(self):
        machine = drawn_machine(4, 7, 8, [10 ** 70, 0])
        words = Words(machine)
        for states in all_sets(machine)[::6]:
            self.assertEqual(tree_of(machine, states), words.tree(states))


if __name__ == "__main__":
    unittest.main()
