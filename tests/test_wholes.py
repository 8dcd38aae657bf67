import enum
import unittest

from probewell.wholes import is_answer, is_below, is_whole
from things import bare_things, list_things, tuple_things


class Figure(enum.IntEnum):
    SEVEN = 7


class Wholes(unittest.TestCase):
    def test_ints_are_whole_numbers(self):
        for number in [0, 1, -1, 7, -30, 2 ** 64, 10 ** 60, -(10 ** 60), 10 ** 6000, -(10 ** 6000)]:
            self.assertIs(is_whole(number), True)

    def test_an_int_of_a_kind_of_its_own_is_one(self):
        self.assertIs(is_whole(Figure.SEVEN), True)

    def test_truths_are_none(self):
        self.assertIs(is_whole(True), False)
        self.assertIs(is_whole(False), False)

    def test_other_things_are_none(self):
        for thing in bare_things() + list_things() + tuple_things():
            with self.subTest(repr(thing)):
                self.assertIs(is_whole(thing), False)


class Bounds(unittest.TestCase):
    def test_below(self):
        for number in range(-3, 6):
            self.assertIs(is_below(number, 3), number in [0, 1, 2])
        self.assertIs(is_below(10 ** 6000, 3), False)

    def test_answers_have_at_most_sixty_figures(self):
        most = int("9" * 60)
        for number in [0, 1, -1, most, -most]:
            self.assertIs(is_answer(number), True)
        for number in [most + 1, -most - 1, 10 ** 6000, -(10 ** 6000)]:
            self.assertIs(is_answer(number), False)

    def test_other_things_keep_to_no_bound(self):
        for thing in bare_things() + list_things() + tuple_things():
            with self.subTest(repr(thing)):
                self.assertIs(is_below(thing, 3), False)
                self.assertIs(is_answer(thing), False)


if __name__ == "__main__":
    unittest.main()
