"""Rows and rings of all tiles, points [8] to [11], and the interface of tilechain/rows.py."""

import inspect
import itertools
import signal
import unittest

from tilechain.marks import odd_marks, parts_of
from tilechain.rows import fewest, one_ring, one_row, wanting
from tilechain.tiles import faces, flaw, is_ring

TRIANGLE = [(1, 2), (3, 2), (3, 1)]
# Two rings that share the mark 3, so that a walk round one of them passes the other by.
EIGHT = [(1, 2), (2, 3), (3, 1), (3, 4), (5, 4), (5, 3)]
# The marks 1, 3, 4 and 5 are odd.
CROSS = [(1, 2), (2, 3), (2, 4), (5, 2)]


class RowsTest(unittest.TestCase):
    def setUp(self):
        # Point [13]: an answer that doesn't come within seconds fails its test, and is not waited for.
        signal.signal(signal.SIGALRM, self.late)
        signal.alarm(20)
        self.addCleanup(signal.alarm, 0)

    def late(self, number, frame):
        raise AssertionError("not answered within seconds")

    def assert_steps(self, row):
        self.assertIs(type(row), list)
        for step in row:
            self.assertIs(type(step), tuple)
            self.assertEqual([type(value) for value in step], [int, bool])

    def assert_told(self, told, word):
        self.assertIs(type(told), tuple)
        self.assertEqual((len(told), told[0]), (2, word))
        self.assertEqual((type(told[0]), type(told[1])), (str, list))

    def assert_row(self, tiles):
        told = one_row(tiles)
        self.assert_told(told, "row")
        self.assert_steps(told[1])
        self.assertIsNone(flaw(tiles, told[1]))
        self.assertEqual(len(told[1]), len(tiles))
        return told[1]

    def assert_ring(self, tiles):
        told = one_ring(tiles)
        self.assert_told(told, "ring")
        self.assert_steps(told[1])
        self.assertIs(is_ring(tiles, told[1]), True)
        self.assertEqual(len(told[1]), len(tiles))

    def assert_refused(self, told, word, wanted):
        self.assert_told(told, word)
        self.assertEqual(told[1], wanted)

    def assert_fewest(self, tiles, count):
        rows = fewest(tiles)
        self.assertIs(type(rows), list)
        for row in rows:
            self.assert_steps(row)
            self.assertNotEqual(row, [])
            self.assertIsNone(flaw(tiles, row))
        laid = sorted(number for row in rows for number, turned in row)
        self.assertEqual(laid, list(range(len(tiles))))
        self.assertEqual(len(rows), count)

    def assert_wanting(self, tiles, count):
        lacking = wanting(tiles)
        self.assertIs(type(lacking), list)
        for tile in lacking:
            self.assertIs(type(tile), tuple)
            self.assertEqual([type(mark) for mark in tile], [int, int])
        self.assertEqual(len(lacking), count)
        self.assert_ring(tiles + lacking)


class InterfaceTest(unittest.TestCase):
    def test_names_of_the_arguments(self):
        for function in (one_row, one_ring, fewest, wanting):
            self.assertEqual(list(inspect.signature(function).parameters), ["tiles"])


class OneRowTest(RowsTest):
    def test_no_odd_mark(self):
        self.assert_row(TRIANGLE)
        self.assert_row(EIGHT)

    def test_two_odd_marks_are_the_ends(self):
        self.assert_row([(1, 2)])
        for tiles in ([(2, 1), (2, 3)], EIGHT + [(3, 9)], EIGHT + [(1, 5)], TRIANGLE + [(1, 7), (7, 2)]):
            row = self.assert_row(tiles)
            ends = [faces(tiles, row[0])[0], faces(tiles, row[-1])[1]]
            self.assertEqual(sorted(ends), odd_marks(tiles))

    def test_more_than_two_odd_marks(self):
        self.assert_refused(one_row(CROSS), "odd", [1, 3, 4, 5])
        self.assert_refused(one_row([(10, 9), (9, -3), (100, 9)]), "odd", [-3, 9, 10, 100])
        self.assert_refused(one_row(CROSS + [(1, 8), (8, 9), (8, 7)]), "odd", [3, 4, 5, 7, 8, 9])

    def test_several_parts_without_odd_marks(self):
        self.assert_refused(one_row([(4, 4), (3, 3)]), "parted", [[3], [4]])
        self.assert_refused(one_row([(9, 8), (8, 9)] + TRIANGLE), "parted", [[1, 2, 3], [8, 9]])

    def test_several_parts_go_ahead_of_odd_marks(self):
        self.assert_refused(one_row([(7, 8), (1, 2)]), "parted", [[1, 2], [7, 8]])
        self.assert_refused(one_row([(6, 7)] + TRIANGLE), "parted", [[1, 2, 3], [6, 7]])
        self.assert_refused(one_row(CROSS + [(0, 0), (-4, 9)]), "parted", [[-4, 9], [0], [1, 2, 3, 4, 5]])

    def test_like_ends(self):
        self.assert_row([(4, 4)])
        self.assert_row([(4, 4), (4, 4), (4, 4)])
        self.assert_row([(2, 2), (1, 2), (1, 1), (2, 2)])
        self.assert_row([(2, 2)] + EIGHT + [(5, 5), (4, 9), (9, 9)])

    def test_tiles_that_are_alike(self):
        self.assert_row([(1, 2), (1, 2)])
        self.assert_row([(1, 2), (1, 2), (2, 1)])
        self.assert_row([(1, 2)] * 7 + [(2, 1)] * 4)
        self.assert_row(TRIANGLE + EIGHT + TRIANGLE)

    def test_no_tiles(self):
        self.assert_refused(one_row([]), "row", [])


class OneRingTest(RowsTest):
    def test_no_odd_mark(self):
        self.assert_ring(TRIANGLE)
        self.assert_ring(EIGHT)
        self.assert_ring(TRIANGLE + EIGHT)

    def test_two_odd_marks(self):
        self.assert_refused(one_ring([(2, 1)]), "odd", [1, 2])
        self.assert_refused(one_ring(EIGHT + [(9, 3)]), "odd", [3, 9])
        self.assert_refused(one_ring([(1, 1), (1, -5), (-5, -5)]), "odd", [-5, 1])

    def test_more_than_two_odd_marks(self):
        self.assert_refused(one_ring(CROSS), "odd", [1, 3, 4, 5])

    def test_several_parts_without_odd_marks(self):
        self.assert_refused(one_ring([(4, 4), (3, 3)]), "parted", [[3], [4]])
        self.assert_refused(one_ring([(9, 8), (8, 9)] + TRIANGLE), "parted", [[1, 2, 3], [8, 9]])

    def test_several_parts_go_ahead_of_odd_marks(self):
        self.assert_refused(one_ring([(7, 8), (1, 2)]), "parted", [[1, 2], [7, 8]])
        self.assert_refused(one_ring(CROSS + [(0, 0), (-4, 9)]), "parted", [[-4, 9], [0], [1, 2, 3, 4, 5]])

    def test_like_ends(self):
        self.assert_ring([(4, 4)])
        self.assert_ring([(4, 4), (4, 4), (4, 4)])
        self.assert_ring([(2, 2)] + EIGHT + [(5, 5), (4, 4), (2, 2)])

    def test_tiles_that_are_alike(self):
        self.assert_ring([(1, 2), (1, 2)])
        self.assert_ring([(1, 2)] * 7 + [(2, 1)] * 3)

    def test_no_tiles(self):
        self.assert_refused(one_ring([]), "ring", [])


class FewestTest(RowsTest):
    def test_one_part_without_odd_marks(self):
        for tiles in ([(4, 4)], TRIANGLE, EIGHT, TRIANGLE + EIGHT + [(5, 5)]):
            self.assert_fewest(tiles, 1)

    def test_one_part_with_two_odd_marks(self):
        for tiles in ([(2, 1)], EIGHT + [(3, 9)], [(1, 2)] * 5, [(1, 1), (1, 2), (2, 2)]):
            self.assert_fewest(tiles, 1)

    def test_one_part_with_more_odd_marks(self):
        self.assert_fewest(CROSS, 2)
        self.assert_fewest(CROSS + EIGHT, 2)
        self.assert_fewest([(0, mark) for mark in range(1, 10)], 5)
        self.assert_fewest([(0, mark) for mark in range(1, 11)] + [(0, 0)], 5)

    def test_several_parts_without_odd_marks(self):
        self.assert_fewest([(4, 4), (3, 3)], 2)
        self.assert_fewest([(9, 8), (8, 9)] + TRIANGLE + [(0, 0), (0, 0)], 3)

    def test_several_parts_with_two_odd_marks(self):
        self.assert_fewest([(7, 8), (1, 2), (2, 3)], 2)
        self.assert_fewest([(7, 8), (1, 2), (6, 5), (7, 9), (7, 7), (2, 1), (1, 2)], 3)

    def test_several_parts_with_more_odd_marks(self):
        other = [(one + 10, two + 10) for one, two in CROSS]
        self.assert_fewest(other + CROSS, 4)

    def test_several_parts_of_each_sort(self):
        self.assert_fewest(CROSS + [(9, 8), (8, 9), (7, 7), (20, 21), (-1, -1)], 6)
        self.assert_fewest([(-1, -1), (30, 30), (20, 21)] + CROSS + [(22, 21)], 5)

    def test_no_tiles(self):
        self.assert_fewest([], 0)
        self.assertEqual(fewest([]), [])


class WantingTest(RowsTest):
    def test_none_for_a_ring(self):
        for tiles in ([(4, 4)], TRIANGLE, EIGHT, [(1, 2), (1, 2)], [(4, 4), (4, 4)]):
            self.assert_wanting(tiles, 0)
            self.assertEqual(wanting(tiles), [])

    def test_no_tiles(self):
        self.assert_wanting([], 0)
        self.assertEqual(wanting([]), [])

    def test_one_part_with_odd_marks(self):
        self.assert_wanting([(2, 1)], 1)
        self.assert_wanting(EIGHT + [(3, 9)], 1)
        self.assert_wanting(CROSS, 2)
        self.assert_wanting([(0, mark) for mark in range(1, 10)], 5)

    def test_several_parts_without_odd_marks(self):
        self.assert_wanting([(4, 4), (3, 3)], 2)
        self.assert_wanting([(9, 8), (8, 9)] + TRIANGLE + [(0, 0), (0, 0)], 3)

    def test_several_parts_with_odd_marks(self):
        self.assert_wanting([(7, 8), (1, 2), (2, 3)], 2)
        self.assert_wanting([(one + 10, two + 10) for one, two in CROSS] + CROSS, 4)

    def test_several_parts_of_both_sorts(self):
        self.assert_wanting([(4, 4), (1, 2)], 2)
        self.assert_wanting(CROSS + [(9, 8), (8, 9), (7, 7), (20, 21), (-1, -1)], 6)
        self.assert_wanting([(-1, -1), (30, 30), (20, 21)] + CROSS + [(22, 21)], 5)


def gaps(tiles):
    """The fewest places at which like marks don't meet: of all orders as rows, and of all as rings."""
    in_rows, in_rings = len(tiles), len(tiles)
    for order in itertools.permutations(tiles):
        for turns in itertools.product((False, True), repeat=len(tiles)):
            laid = [tile[::-1] if turned else tile for tile, turned in zip(order, turns)]
            apart = sum(left[1] != right[0] for left, right in zip(laid, laid[1:]))
            in_rows = min(in_rows, apart)
            in_rings = min(in_rings, apart + (laid[-1][1] != laid[0][0]))
    return in_rows, in_rings


class EverySmallSetTest(RowsTest):
    """Every answer held against all orders and all turns of the tiles."""

    def check(self, tiles):
        in_rows, in_rings = gaps(tiles)
        parts = parts_of(tiles)
        reason = ("parted", parts) if len(parts) > 1 else ("odd", odd_marks(tiles))
        if in_rows == 0:
            self.assert_row(tiles)
        else:
            self.assertEqual(one_row(tiles), reason)
        if in_rings == 0:
            self.assert_ring(tiles)
        else:
            self.assertEqual(one_ring(tiles), reason)
        self.assert_fewest(tiles, in_rows + 1)
        self.assert_wanting(tiles, in_rings)

    def test_up_to_three_tiles(self):
        kinds = list(itertools.product((3, -1, 0, 7), repeat=2))
        for count in (1, 2, 3):
            for tiles in itertools.combinations_with_replacement(kinds, count):
                self.check(list(tiles))

    def test_four_tiles(self):
        kinds = list(itertools.combinations_with_replacement((5, 2, 0, -4), 2))
        for tiles in itertools.combinations_with_replacement(kinds, 4):
            self.check(list(tiles))


def scrambled_ring(count, marks):
    way = [(n * n * 7 + n * 3) % marks for n in range(count)]
    tiles = list(zip(way, way[1:] + way[:1]))
    return [tile[::-1] if n % 3 == 0 else tile for n, tile in enumerate(tiles)]


class ThreeHundredTilesTest(RowsTest):
    """Point [13]: all is told for three hundred tiles as for three."""

    def check_ring(self, tiles):
        self.assert_row(tiles)
        self.assert_ring(tiles)
        self.assert_fewest(tiles, 1)
        self.assert_wanting(tiles, 0)

    def check_refused(self, tiles, word, count):
        self.assertEqual((one_row(tiles)[0], one_ring(tiles)[0]), (word, word))
        self.assert_fewest(tiles, count)
        self.assert_wanting(tiles, count)

    def test_a_ring_of_many_marks(self):
        self.check_ring([(n, (n + 1) % 300) for n in range(300)])
        self.check_ring([((n + 1) % 300, n) if n % 2 == 0 else (n, (n + 1) % 300) for n in range(299, -1, -1)])

    def test_rings_of_few_marks(self):
        for marks in (1, 2, 3, 4, 7, 11, 31):
            self.check_ring(scrambled_ring(300, marks))

    def test_tiles_that_are_alike(self):
        self.check_ring([(1, 2)] * 300)
        self.check_ring([(1, 1)] * 300)

    def test_rings_that_share_one_mark(self):
        self.check_ring([tile for n in range(1, 101) for tile in ((0, n), (n, -n), (-n, 0))])

    def test_a_chain(self):
        tiles = [(n, n + 1) if n % 2 == 0 else (n + 1, n) for n in range(300)]
        self.assert_row(tiles)
        self.assertEqual(one_ring(tiles), ("odd", [0, 300]))
        self.assert_fewest(tiles, 1)
        self.assert_wanting(tiles, 1)

    def test_many_odd_marks(self):
        self.check_refused([(0, n) for n in range(1, 301)], "odd", 150)
        # Each pair of 25 marks makes a tile, so each mark stands 24 times; taking one tile from every
        # second mark to the next leaves all marks but one odd.
        every = list(itertools.combinations(range(25), 2))
        self.assert_fewest(every, 1)
        self.check_refused([tile for tile in every if tile[0] % 2 == 1 or tile[1] != tile[0] + 1], "odd", 12)

    def test_many_parts(self):
        self.check_refused([(n, n) for n in range(300)], "parted", 300)
        self.check_refused([(2 * n, 2 * n + 1) for n in range(300)], "parted", 300)
        self.check_refused([(n // 2, -1 - n // 2) for n in range(300)], "parted", 150)

    def test_somewhat_more_tiles_are_not_refused(self):
        self.check_ring([(n, (n + 1) % 1500) for n in range(1500)])
        self.check_ring(scrambled_ring(310, 5))
        self.check_refused([(n, n) for n in range(310)], "parted", 310)


if __name__ == "__main__":
    unittest.main()
