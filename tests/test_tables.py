import collections
import copy
import unittest

from probewell.errors import NoMachine
from probewell.tables import asks_of, checked, is_machine
from things import bare_things, even_machine, label, list_things, nested_in_itself, number_things, tuple_things

LONGEST = int("9" * 60)


class OwnList(list):
    pass


Step = collections.namedtuple("Step", "answer after")


def machines():
    shared_row = [(0, 0), (1, 1)]
    return [
        [[(0, 0)]],
        [[(0, 1), (1, 0)], [(-7, 0), (1, 1)]],
        [[(5, 1)], [(5, 2)], [(5, 2)]],
        [[(LONGEST, 0), (-LONGEST, 0), (0, 0)]],
        [shared_row, shared_row],
        OwnList([OwnList([Step(0, 0)])]),
        even_machine(1, 5), even_machine(30, 1), even_machine(30, 5), even_machine(29, 4),
    ]


def uneven_machines():
    return [
        [[(0, 0)], []],
        [[(0, 0)], [(0, 0), (0, 0)]],
        [[(0, 0), (0, 0)], [(0, 0)]],
        [[(0, 0)], [(0, 0)], [(0, 0), (0, 1)]],
        even_machine(29, 5) + even_machine(1, 4),
        [[]], [[], []], [],
        even_machine(31, 1), even_machine(31, 5), even_machine(1, 6), even_machine(30, 6), even_machine(2000, 1),
    ]


def machines_of_wrong_steps():
    found = []
    for step in [(), (0,), (0, 0, 0), [0, 0], [], {0: 0, 1: 0}, "00", (0, -1), (0, 2), (0, 30), (0, 10 ** 6000),
                 (LONGEST + 1, 0), (-LONGEST - 1, 0), (10 ** 6000, 0), (-(10 ** 6000), 0)]:
        found.append([[(0, 0), (1, 1)], [(0, 0), step]])
        found.append([[step, (1, 1)], [(0, 0), (0, 0)]])
    return found


def machines_of_wrong_things():
    strange = bare_things() + list_things()
    found = []
    for thing in strange + tuple_things():
        found.append([[(thing, 0), (0, 0)]])
        found.append([[(0, 0), (0, thing)]])
        found.append([[(0, 0)], thing])
    for thing in strange + number_things():
        found.append([[(0, 0)], [thing]])
        found.append([[thing]])
    return found


def machines_nested_in_themselves():
    thing = nested_in_itself()
    row = []
    row.append((0, row))
    return [thing, [row], [thing, thing]]


def things_of_other_kinds():
    found = bare_things() + number_things() + tuple_things() + [[0], [[0]], [[[]]], [None], [[(0, 0)], None]]
    found += [([(0, 0)],), [((0, 0),)], [(0, 0)], {0: [(0, 0)]}, ["ab"], [range(1)], [{(0, 0)}], [{(0, 0): 0}]]
    return found


def no_machines():
    return (uneven_machines() + machines_of_wrong_steps() + machines_of_wrong_things()
            + machines_nested_in_themselves() + things_of_other_kinds())


class IsMachine(unittest.TestCase):
    def test_machines(self):
        for machine in machines():
            with self.subTest(label(machine)):
                self.assertIs(is_machine(machine), True)

    def test_what_is_none(self):
        for thing in no_machines():
            with self.subTest(label(thing)):
                self.assertIs(is_machine(thing), False)

    def test_every_number_of_states_and_asks(self):
        for states in range(0, 33):
            for asks in range(0, 8):
                good = 1 <= states <= 30 and 1 <= asks <= 5
                self.assertIs(is_machine(even_machine(states, asks)), good, (states, asks))

    def test_every_next_state(self):
        for after in range(-4, 7):
            self.assertIs(is_machine([[(0, 0)], [(0, after)], [(0, 1)]]), after in [0, 1, 2], after)

    def test_every_length_of_answers(self):
        for figures in range(1, 70):
            for sign in [1, -1]:
                self.assertIs(is_machine([[(sign * 10 ** (figures - 1), 0)]]), figures <= 60, figures)
                self.assertIs(is_machine([[(sign * (10 ** figures - 1), 0)]]), figures <= 60, figures)

    def test_truths_are_neither_answers_nor_states(self):
        for truth in [True, False]:
            self.assertIs(is_machine([[(truth, 0)], [(0, 0)]]), False)
            self.assertIs(is_machine([[(0, truth)], [(0, 0)]]), False)

    def test_nothing_is_changed(self):
        for thing in machines() + uneven_machines() + machines_of_wrong_steps():
            kept = copy.deepcopy(thing)
            is_machine(thing)
            self.assertTrue(thing == kept)


class Checked(unittest.TestCase):
    def test_tells_an_equal_machine(self):
        for machine in machines():
            with self.subTest(label(machine)):
                told = checked(machine)
                self.assertEqual(told, machine)
                self.assertTrue(is_machine(told))

    def test_tells_plain_lists_and_tuples(self):
        for machine in machines():
            told = checked(machine)
            self.assertIs(type(told), list)
            for row in told:
                self.assertIs(type(row), list)
                for step in row:
                    self.assertIs(type(step), tuple)

    def test_refuses_what_is_none(self):
        for thing in no_machines():
            with self.subTest(label(thing)):
                with self.assertRaises(NoMachine):
                    checked(thing)

    def test_every_list_is_a_new_one(self):
        for machine in machines():
            told = checked(machine)
            lists = [told] + told
            handed = [machine] + machine
            self.assertEqual(len({id(one) for one in lists}), len(lists))
            self.assertFalse({id(one) for one in lists} & {id(one) for one in handed})

    def test_told_twice_is_told_anew(self):
        machine = even_machine(3, 2)
        one = checked(machine)
        other = checked(machine)
        one[0][0] = (99, 0)
        one.append([(0, 0), (0, 0)])
        self.assertEqual(other, even_machine(3, 2))
        self.assertEqual(machine, even_machine(3, 2))

    def test_what_is_done_to_one_row_stays_there(self):
        row = [(0, 0), (1, 1)]
        told = checked([row, row])
        told[0][0] = (5, 1)
        self.assertEqual(told, [[(5, 1), (1, 1)], [(0, 0), (1, 1)]])
        self.assertEqual(row, [(0, 0), (1, 1)])

    def test_what_is_done_afterwards_changes_nothing(self):
        machine = even_machine(3, 2)
        told = checked(machine)
        machine[1][0] = (77, 0)
        machine[2].clear()
        machine.pop()
        self.assertEqual(told, even_machine(3, 2))

    def test_nothing_handed_in_is_changed(self):
        for machine in machines():
            kept = copy.deepcopy(machine)
            checked(machine)
            self.assertEqual(machine, kept)
        for thing in uneven_machines() + machines_of_wrong_steps():
            kept = copy.deepcopy(thing)
            with self.assertRaises(NoMachine):
                checked(thing)
            self.assertTrue(thing == kept)


class AsksOf(unittest.TestCase):
    def test_counts_the_asks(self):
        for states in [1, 2, 6, 30]:
            for asks in range(1, 6):
                self.assertEqual(asks_of(even_machine(states, asks)), asks)


if __name__ == "__main__":
    unittest.main()
