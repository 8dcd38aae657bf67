import unittest

from probewell.sizes import book_size, rows_of
from things import probes_up_to, shares_lists

# For each number of asks the greatest most for which there are no more than 4,000 lists.
GREATEST = {1: 31, 2: 10, 3: 7, 4: 5, 5: 5}


class RowsOf(unittest.TestCase):
    def test_all_lists_in_order(self):
        for asks, greatest in GREATEST.items():
            for most in range(greatest + 1):
                self.assertEqual(rows_of(asks, most), list(probes_up_to(most, asks)))

    def test_ordinary_ones(self):
        self.assertEqual(rows_of(2, 2), [[], [0], [1], [0, 0], [0, 1], [1, 0], [1, 1]])
        self.assertEqual(rows_of(3, 1), [[], [0], [1], [2]])

    def test_most_0(self):
        for asks in range(1, 6):
            self.assertEqual(rows_of(asks, 0), [[]])

    def test_one_ask(self):
        self.assertEqual(rows_of(1, 31), [[0] * many for many in range(32)])

    def test_how_many(self):
        self.assertEqual([len(rows_of(asks, GREATEST[asks])) for asks in range(1, 6)], [32, 2047, 3280, 1365, 3906])

    def test_lists_are_new(self):
        for asks, most in [(1, 31), (2, 4), (5, 3), (3, 0)]:
            told, again = rows_of(asks, most), rows_of(asks, most)
            self.assertFalse(shares_lists([told, again], []))
            for row in told:
                row.append(7)
            told.append([7])
            self.assertEqual(rows_of(asks, most), again)

    def test_somewhat_beyond_the_bounds(self):
        self.assertEqual(rows_of(1, 40), [[0] * many for many in range(41)])
        self.assertEqual(rows_of(7, 3), list(probes_up_to(3, 7)))
        self.assertEqual(len(rows_of(2, 12)), 8191)


class BookSize(unittest.TestCase):
    def test_by_the_words_of_the_point(self):
        for states in range(1, 31):
            for asks in range(1, 6):
                for extra in range(31):
                    rows = sum(asks ** power for power in range(extra + 2))
                    unlike = 1 if states == 1 else states - 1
                    self.assertEqual(book_size(states, asks, extra), states * rows * unlike)

    def test_ordinary_ones(self):
        self.assertEqual(book_size(1, 1, 0), 2)
        self.assertEqual(book_size(2, 1, 0), 4)
        self.assertEqual(book_size(3, 2, 0), 18)
        self.assertEqual(book_size(3, 2, 1), 42)
        self.assertEqual(book_size(1, 5, 3), 781)
        self.assertEqual(book_size(25, 4, 0), 3000)
        self.assertEqual(book_size(28, 3, 0), 3024)
        self.assertEqual(book_size(30, 5, 0), 5220)

    def test_the_greatest(self):
        self.assertEqual(book_size(30, 5, 30), 870 * (5 ** 32 - 1) // 4)
        self.assertEqual(book_size(30, 1, 30), 870 * 32)

    def test_as_many_as_the_rows(self):
        for asks, greatest in GREATEST.items():
            for extra in range(greatest):
                self.assertEqual(book_size(1, asks, extra), len(rows_of(asks, extra + 1)))

    def test_it_is_a_whole_number(self):
        self.assertIs(type(book_size(1, 1, 0)), int)


if __name__ == "__main__":
    unittest.main()
