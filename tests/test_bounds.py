"""Point [1]: which marks and tiles there may be, and what becomes of what is handed in."""

import copy
import unittest

from tilechain.errors import NoMark, NoTile
from tilechain.marks import counts, odd_marks, parts_of
from tilechain.rows import fewest, one_ring, one_row, wanting
from tilechain.tiles import begun_at, faces, flaw, is_ring
from tilechain.turns import least_turned

HIGH = 10 ** 60 - 1
LOW = -HIGH

ALL_TILES = (one_row, one_ring, fewest, wanting, least_turned)
# A ring, a row that is none, odd marks, parts without and with odd marks, and no tiles.
SETS_OF_TILES = (
    [(3, 1), (2, 1), (2, 3), (3, 3), (1, 2), (1, 2)],
    [(3, 1), (2, 1), (2, 3), (3, 1)],
    [(1, 2), (1, 3), (1, 4)],
    [(9, 9), (3, 1), (3, 1)],
    [(3, 1), (2, 1), (2, 3), (9, 8), (9, 9), (3, 1)],
    [],
)


def straight(count):
    return [(number, False) for number in range(count)]


class MarksOfAnySizeTest(unittest.TestCase):
    def setUp(self):
        # HIGH and HIGH - 1 would be one number if figures were lost.
        self.tiles = [(HIGH, -1), (HIGH - 1, -1), (LOW, HIGH), (LOW, HIGH - 1), (LOW + 1, 0)]
        self.ring = [(0, False), (1, True), (3, True), (2, False)]

    def test_laying(self):
        self.assertEqual(faces(self.tiles, (2, False)), (LOW, HIGH))
        self.assertEqual(faces(self.tiles, (3, True)), (HIGH - 1, LOW))
        self.assertIsNone(flaw(self.tiles, self.ring))
        self.assertIs(is_ring(self.tiles, self.ring), True)
        self.assertEqual(flaw(self.tiles, [(0, False), (1, True), (2, True)]), ("apart", 2))

    def test_begun_at(self):
        self.assertEqual(begun_at(self.tiles, self.ring, LOW), self.ring[3:] + self.ring[:3])
        self.assertEqual(begun_at(self.tiles, self.ring, HIGH - 1), self.ring[2:] + self.ring[:2])
        self.assertEqual(begun_at(self.tiles, self.ring, -1), self.ring[1:] + self.ring[:1])
        with self.assertRaises(NoMark):
            begun_at(self.tiles, self.ring, LOW + 1)

    def test_marks(self):
        self.assertEqual(
            counts(self.tiles),
            [(LOW, 2), (LOW + 1, 1), (-1, 2), (0, 1), (HIGH - 1, 2), (HIGH, 2)],
        )
        self.assertEqual(odd_marks(self.tiles), [LOW + 1, 0])
        self.assertEqual(parts_of(self.tiles), [[LOW, -1, HIGH - 1, HIGH], [LOW + 1, 0]])

    def test_rows_and_rings(self):
        ring = self.tiles[:4]
        self.assertIs(is_ring(ring, one_ring(ring)[1]), True)
        self.assertIsNone(flaw(ring[:3], one_row(ring[:3])[1]))
        self.assertEqual(one_ring(ring[:3]), ("odd", [LOW, HIGH - 1]))
        self.assertEqual(sorted(wanting(ring[:3])[0]), [LOW, HIGH - 1])
        self.assertEqual(one_row(self.tiles), ("parted", parts_of(self.tiles)))
        self.assertEqual(len(fewest(self.tiles)), 2)
        word, row, prices = least_turned(ring)
        self.assertIs(is_ring(ring, row), True)
        self.assertEqual([mark for mark, price in prices], [LOW, -1, HIGH - 1, HIGH])

    def test_marks_somewhat_beyond_are_not_refused(self):
        beyond = 10 ** 62
        tiles = [(beyond, -beyond)]
        self.assertEqual(faces(tiles, (0, True)), (-beyond, beyond))
        self.assertEqual(parts_of(tiles), [[-beyond, beyond]])
        self.assertEqual(one_ring(tiles), ("odd", [-beyond, beyond]))
        self.assertEqual(sum(turned for number, turned in least_turned(tiles * 2)[1]), 1)


class NoTilesTest(unittest.TestCase):
    def test_no_tiles(self):
        self.assertIsNone(flaw([], []))
        self.assertIs(is_ring([], []), True)
        self.assertEqual((counts([]), odd_marks([]), parts_of([])), ([], [], []))
        with self.assertRaises(NoTile):
            faces([], (0, False))


class NumbersTest(unittest.TestCase):
    def test_tiles_are_numbered_from_nought_by_their_places(self):
        tiles = [(6, 5), (4, 3), (2, 1)]
        self.assertEqual([faces(tiles, (number, False)) for number in (0, 1, 2)], tiles)

    def test_tiles_that_are_alike_are_several(self):
        tiles = [(1, 2), (1, 2), (2, 1), (2, 1)]
        ring = [(0, False), (1, True), (3, True), (2, False)]
        self.assertIs(is_ring(tiles, ring), True)
        self.assertEqual(flaw(tiles, ring + [(0, False)]), ("twice", 4))
        self.assertEqual(counts(tiles), [(1, 4), (2, 4)])


class ManyTilesTest(unittest.TestCase):
    def check_chain(self, count):
        # Every other tile is handed in turned over.
        tiles = [(n, n + 1) if n % 2 == 0 else (n + 1, n) for n in range(count)]
        row = [(n, n % 2 == 1) for n in range(count)]
        marks = list(range(count + 1))
        self.assertIsNone(flaw(tiles, row))
        self.assertIs(is_ring(tiles, row), False)
        self.assertEqual(flaw(tiles, row + [(count - 1, True)]), ("twice", count))
        self.assertEqual(counts(tiles), [(mark, 1 if mark in (0, count) else 2) for mark in marks])
        self.assertEqual(odd_marks(tiles), [0, count])
        self.assertEqual(parts_of(tiles), [marks])

    def test_a_chain_of_three_hundred(self):
        self.check_chain(300)

    def test_a_chain_somewhat_longer_is_not_refused(self):
        self.check_chain(301)
        self.check_chain(1500)

    def test_a_ring_of_three_hundred(self):
        tiles = [(n, (n + 1) % 300) for n in range(300)]
        ring = straight(300)
        self.assertIs(is_ring(tiles, ring), True)
        self.assertEqual(begun_at(tiles, ring, 299), [ring[299]] + ring[:299])
        self.assertEqual(odd_marks(tiles), [])

    def test_three_hundred_parts(self):
        tiles = [(-n, -n) for n in range(300)]
        self.assertEqual(parts_of(tiles), [[mark] for mark in range(-299, 1)])


class NothingIsChangedTest(unittest.TestCase):
    def setUp(self):
        self.tiles = [(3, 1), (2, 1), (2, 3), (9, 8), (9, 9), (3, 1)]
        self.ring = [(0, False), (1, True), (2, False)]
        self.rows = [[], self.ring, [(0, False), (0, True)], [(0, False), (3, False)], [(1, True), (7, False)]]

    def assert_unchanged(self, function, *given):
        before = copy.deepcopy(given)
        try:
            function(*given)
        except (NoTile, NoMark):
            pass
        self.assertEqual(given, before)

    def test_laying(self):
        for step in [(0, False), (0, True), (-1, False), (6, True)]:
            self.assert_unchanged(faces, self.tiles, step)
        for row in self.rows:
            self.assert_unchanged(flaw, self.tiles, row)
            self.assert_unchanged(is_ring, self.tiles, row)
        for mark in (3, 1, 2, 9, 0):
            self.assert_unchanged(begun_at, self.tiles, self.ring, mark)

    def test_marks(self):
        for function in (counts, odd_marks, parts_of):
            self.assert_unchanged(function, self.tiles)
            self.assert_unchanged(function, [])

    def test_all_tiles(self):
        for function in ALL_TILES:
            for tiles in SETS_OF_TILES:
                self.assert_unchanged(function, list(tiles))


def lists_within(value):
    found = [value] if isinstance(value, list) else []
    for member in value if isinstance(value, (list, tuple)) else ():
        found.extend(lists_within(member))
    return found


class EachListIsNewTest(unittest.TestCase):
    def setUp(self):
        self.tiles = [(3, 1), (2, 1), (2, 3), (9, 8), (9, 9)]

    def assert_new(self, function, *given):
        told = function(*given)
        wanted = copy.deepcopy((told, given))
        before = lists_within(told)
        self.assertNotEqual(before, [])
        for value in before:
            value.append("more")
        again = function(*given)
        self.assertEqual((again, given), wanted)
        known = [id(value) for value in before + lists_within(given)]
        for value in lists_within(again):
            self.assertNotIn(id(value), known)
        self.assertEqual(len({id(value) for value in lists_within(again)}), len(lists_within(again)))

    def test_rings(self):
        ring = [(0, False), (1, True), (2, False)]
        for mark in (3, 1, 2):
            self.assert_new(begun_at, self.tiles, ring, mark)
        self.assert_new(begun_at, self.tiles, [(4, False)], 9)

    def test_marks(self):
        for function in (counts, odd_marks, parts_of):
            self.assert_new(function, self.tiles)
            self.assert_new(function, [])

    def test_all_tiles(self):
        for function in ALL_TILES:
            for tiles in SETS_OF_TILES:
                self.assert_new(function, list(tiles))


if __name__ == "__main__":
    unittest.main()
