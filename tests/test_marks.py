"""Marks, points [6] and [7], and the interface of tilechain/marks.py."""

import inspect
import unittest

from tilechain.marks import counts, odd_marks, parts_of


class InterfaceTest(unittest.TestCase):
    def test_names_of_the_arguments(self):
        for function in (counts, odd_marks, parts_of):
            self.assertEqual(list(inspect.signature(function).parameters), ["tiles"])


class CountsTest(unittest.TestCase):
    def test_each_end_counts(self):
        self.assertEqual(counts([(1, 2), (2, 3), (3, 2)]), [(1, 1), (2, 3), (3, 2)])

    def test_a_tile_with_like_ends_counts_twice(self):
        self.assertEqual(counts([(4, 4)]), [(4, 2)])
        self.assertEqual(counts([(4, 4), (4, 5), (5, 5)]), [(4, 3), (5, 3)])

    def test_tiles_that_are_alike_count_each(self):
        self.assertEqual(counts([(1, 2), (1, 2), (2, 1)]), [(1, 3), (2, 3)])

    def test_rising_by_marks_whatever_the_order_of_the_tiles(self):
        self.assertEqual(
            counts([(10, 9), (-3, 100), (0, -20), (9, 2)]),
            [(-20, 1), (-3, 1), (0, 1), (2, 1), (9, 2), (10, 1), (100, 1)],
        )

    def test_no_tiles(self):
        self.assertEqual(counts([]), [])

    def test_a_list_of_tuples_of_whole_numbers_is_told(self):
        told = counts([(2, 1), (2, 2)])
        self.assertIs(type(told), list)
        for pair in told:
            self.assertIs(type(pair), tuple)
            self.assertEqual([type(value) for value in pair], [int, int])


class OddMarksTest(unittest.TestCase):
    def test_odd_and_even_marks(self):
        self.assertEqual(odd_marks([(1, 2), (2, 3), (3, 2)]), [1, 2])
        self.assertEqual(odd_marks([(1, 2)]), [1, 2])

    def test_a_ring_has_none(self):
        self.assertEqual(odd_marks([(1, 2), (2, 3), (3, 1)]), [])

    def test_a_tile_with_like_ends_makes_no_mark_odd_or_even(self):
        self.assertEqual(odd_marks([(4, 4)]), [])
        self.assertEqual(odd_marks([(4, 4), (4, 5)]), [4, 5])

    def test_a_mark_that_stands_five_times_is_odd(self):
        self.assertEqual(odd_marks([(7, 7), (7, 7), (7, 6), (6, 6), (6, 5), (5, 4), (4, 5)]), [5, 7])

    def test_rising_whatever_the_order_of_the_tiles(self):
        self.assertEqual(odd_marks([(10, 9), (-3, 100), (0, -20)]), [-20, -3, 0, 9, 10, 100])

    def test_no_tiles(self):
        self.assertEqual(odd_marks([]), [])

    def test_a_list_of_whole_numbers_is_told(self):
        told = odd_marks([(2, 1)])
        self.assertIs(type(told), list)
        self.assertEqual([type(mark) for mark in told], [int, int])


class PartsOfTest(unittest.TestCase):
    def test_one_part(self):
        self.assertEqual(parts_of([(2, 1)]), [[1, 2]])
        self.assertEqual(parts_of([(1, 2), (2, 3), (3, 1)]), [[1, 2, 3]])

    def test_several_parts(self):
        self.assertEqual(parts_of([(1, 2), (3, 4), (5, 6)]), [[1, 2], [3, 4], [5, 6]])

    def test_a_tile_with_like_ends(self):
        self.assertEqual(parts_of([(4, 4)]), [[4]])
        self.assertEqual(parts_of([(4, 4), (3, 3), (5, 4)]), [[3], [4, 5]])

    def test_marks_that_hang_together_through_others_only(self):
        self.assertEqual(parts_of([(1, 2), (3, 4), (2, 3)]), [[1, 2, 3, 4]])
        self.assertEqual(parts_of([(1, 9), (2, 8), (3, 7), (9, 8), (7, 8)]), [[1, 2, 3, 7, 8, 9]])

    def test_hanging_together_goes_both_ways_along_a_tile(self):
        self.assertEqual(parts_of([(1, 3), (2, 3)]), [[1, 2, 3]])
        self.assertEqual(parts_of([(3, 1), (3, 2)]), [[1, 2, 3]])

    def test_tiles_that_are_alike(self):
        self.assertEqual(parts_of([(1, 2), (1, 2), (2, 1)]), [[1, 2]])

    def test_rising_within_a_part(self):
        self.assertEqual(parts_of([(10, 9), (9, -100), (-100, 2), (10, -3)]), [[-100, -3, 2, 9, 10]])

    def test_parts_in_the_order_of_their_first_marks(self):
        # The longer parts and the parts of later tiles come first here, and 10 behind 9.
        self.assertEqual(
            parts_of([(10, 11), (9, 50), (0, 99), (99, 98), (-7, 60)]),
            [[-7, 60], [0, 98, 99], [9, 50], [10, 11]],
        )

    def test_no_tiles(self):
        self.assertEqual(parts_of([]), [])

    def test_a_list_of_lists_of_whole_numbers_is_told(self):
        told = parts_of([(2, 1), (5, 5)])
        self.assertIs(type(told), list)
        for part in told:
            self.assertIs(type(part), list)
            for mark in part:
                self.assertIs(type(mark), int)


if __name__ == "__main__":
    unittest.main()
