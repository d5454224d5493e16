"""Laying, points [2] to [5], and the interface of tilechain/tiles.py."""

import inspect
import unittest

from tilechain.errors import NoMark, NoTile
from tilechain.tiles import begun_at, faces, flaw, is_ring

TILES = [(1, 2), (3, 2), (3, 3), (3, 1), (7, 8), (1, 2)]


def straight(*numbers):
    return [(number, False) for number in numbers]


class InterfaceTest(unittest.TestCase):
    def test_names_of_the_arguments(self):
        wanted = {
            faces: ["tiles", "step"],
            flaw: ["tiles", "row"],
            is_ring: ["tiles", "row"],
            begun_at: ["tiles", "ring", "mark"],
        }
        for function, names in wanted.items():
            self.assertEqual(list(inspect.signature(function).parameters), names)


class FacesTest(unittest.TestCase):
    def test_each_tile_straight(self):
        for number, tile in enumerate(TILES):
            self.assertEqual(faces(TILES, (number, False)), tile)

    def test_each_tile_turned(self):
        told = [faces(TILES, (number, True)) for number in range(len(TILES))]
        self.assertEqual(told, [(2, 1), (2, 3), (3, 3), (1, 3), (8, 7), (2, 1)])

    def test_a_tile_with_like_ends(self):
        self.assertEqual(faces([(5, 5)], (0, False)), (5, 5))
        self.assertEqual(faces([(5, 5)], (0, True)), (5, 5))

    def test_a_tuple_of_whole_numbers_is_told(self):
        for turned in (False, True):
            told = faces(TILES, (1, turned))
            self.assertIs(type(told), tuple)
            self.assertEqual([type(mark) for mark in told], [int, int])

    def test_the_number_of_no_tile_is_refused(self):
        numbers = [-1, -2, -len(TILES), -len(TILES) - 1, len(TILES), len(TILES) + 1, 10 ** 60, -(10 ** 60)]
        for number in numbers:
            for turned in (False, True):
                with self.subTest(number=number, turned=turned):
                    with self.assertRaises(NoTile):
                        faces(TILES, (number, turned))

    def test_a_number_too_long_for_a_text_is_refused_alike(self):
        for number in (10 ** 6000, -(10 ** 6000)):
            for turned in (False, True):
                with self.assertRaises(NoTile):
                    faces(TILES, (number, turned))

    def test_with_no_tiles_every_number_is_refused(self):
        for number in (-1, 0, 1):
            for turned in (False, True):
                with self.assertRaises(NoTile):
                    faces([], (number, turned))


class GoodRowTest(unittest.TestCase):
    def assert_good(self, tiles, row):
        self.assertIsNone(flaw(tiles, row))

    def test_good_rows(self):
        self.assert_good(TILES, [(0, False), (1, True), (2, False), (3, False)])
        self.assert_good(TILES, [(0, False), (1, True), (2, True), (3, False)])
        self.assert_good(TILES, [(3, True), (2, False), (1, False), (0, True)])

    def test_a_row_need_not_lay_all_tiles(self):
        for number in range(len(TILES)):
            self.assert_good(TILES, [(number, False)])
            self.assert_good(TILES, [(number, True)])

    def test_the_row_without_steps(self):
        self.assert_good(TILES, [])
        self.assert_good([], [])

    def test_tiles_that_are_alike_are_several(self):
        self.assert_good(TILES, [(0, False), (5, True)])
        self.assert_good([(4, 4), (4, 4), (4, 4)], [(2, False), (0, True), (1, False)])


class FlawTest(unittest.TestCase):
    def assert_flaw(self, tiles, row, word, place):
        told = flaw(tiles, row)
        self.assertEqual(told, (word, place))
        self.assertEqual((type(told), type(told[0]), type(told[1])), (tuple, str, int))

    def test_none_at_each_place(self):
        for number in (-1, -len(TILES), len(TILES), 10 ** 60, -(10 ** 60), 10 ** 6000):
            for turned in (False, True):
                self.assert_flaw(TILES, [(number, turned)], "none", 0)
                self.assert_flaw(TILES, [(number, turned), (0, False)], "none", 0)
                self.assert_flaw(TILES, [(0, False), (1, True), (number, turned)], "none", 2)

    def test_none_with_no_tiles(self):
        self.assert_flaw([], [(0, False)], "none", 0)
        self.assert_flaw([], [(0, True), (1, True)], "none", 0)

    def test_twice_although_the_marks_meet(self):
        self.assert_flaw(TILES, [(0, False), (0, True)], "twice", 1)
        self.assert_flaw(TILES, [(2, False), (2, False)], "twice", 1)

    def test_twice_with_other_steps_between(self):
        self.assert_flaw(TILES, [(0, False), (1, True), (3, False), (0, False)], "twice", 3)
        self.assert_flaw(TILES, [(1, True), (3, False), (0, False), (5, True), (0, False)], "twice", 4)

    def test_apart(self):
        self.assert_flaw(TILES, [(0, False), (1, False)], "apart", 1)
        self.assert_flaw(TILES, [(0, True), (1, True)], "apart", 1)
        self.assert_flaw(TILES, [(0, False), (1, True), (3, True)], "apart", 2)
        self.assert_flaw(TILES, [(0, False), (1, True), (2, False), (4, False)], "apart", 3)

    def test_the_left_marks_or_the_right_marks_do_not_meet(self):
        self.assert_flaw([(1, 2), (1, 2)], straight(0, 1), "apart", 1)
        self.assert_flaw([(1, 2), (3, 1)], straight(0, 1), "apart", 1)

    def test_a_row_longer_than_there_are_tiles(self):
        self.assert_flaw([(1, 2), (2, 1)], straight(0, 1, 0), "twice", 2)
        self.assert_flaw([(1, 2), (2, 1)], straight(0, 1, 2), "none", 2)
        self.assert_flaw([(1, 1)], straight(0, 0, 0, 0), "twice", 1)

    def test_the_first_place_of_several(self):
        self.assert_flaw(TILES, straight(0, 4, 9, 0), "apart", 1)
        self.assert_flaw(TILES, straight(0, 0, 9, 4), "twice", 1)
        self.assert_flaw(TILES, straight(0, -1, 0, 4), "none", 1)
        self.assert_flaw(TILES, straight(2, 3, 2, -1), "twice", 2)
        self.assert_flaw(TILES, straight(2, 3, 4, 2), "apart", 2)

    def test_twice_goes_ahead_of_apart(self):
        self.assert_flaw(TILES, straight(0, 0), "twice", 1)
        self.assert_flaw(TILES, [(2, False), (3, False), (2, True)], "twice", 2)

    def test_none_goes_ahead_of_apart(self):
        # -3 would be the tile (3, 1) counted from the end, which is apart from what is ahead.
        self.assert_flaw(TILES, straight(0, -3), "none", 1)

    def test_none_goes_ahead_of_twice(self):
        # -1 would be the tile 5 again, counted from the end.
        self.assert_flaw(TILES, [(5, False), (-1, True)], "none", 1)
        self.assert_flaw(TILES, straight(9, 9), "none", 0)


class IsRingTest(unittest.TestCase):
    def assert_ring(self, tiles, row):
        self.assertIs(is_ring(tiles, row), True)

    def assert_no_ring(self, tiles, row):
        self.assertIs(is_ring(tiles, row), False)

    def test_rings(self):
        self.assert_ring(TILES, [(0, False), (1, True), (2, False), (3, False)])
        self.assert_ring(TILES, [(3, True), (1, False), (0, True)])
        self.assert_ring(TILES, [(0, False), (5, True)])

    def test_a_ring_of_one_step(self):
        self.assert_ring(TILES, [(2, False)])
        self.assert_ring(TILES, [(2, True)])

    def test_the_row_without_steps(self):
        self.assert_ring(TILES, [])
        self.assert_ring([], [])

    def test_good_rows_that_are_no_rings(self):
        self.assert_no_ring(TILES, [(0, False)])
        self.assert_no_ring(TILES, [(0, True)])
        self.assert_no_ring(TILES, [(0, False), (1, True)])
        self.assert_no_ring(TILES, [(0, False), (1, True), (2, False)])

    def test_like_left_marks_or_like_right_marks_make_no_ring(self):
        self.assert_no_ring([(1, 2), (2, 1), (1, 3)], straight(0, 1, 2))
        self.assert_no_ring([(3, 1), (1, 2), (2, 1)], straight(0, 1, 2))

    def test_rows_with_a_flaw_whose_outer_marks_meet(self):
        self.assert_no_ring([(1, 2), (3, 1)], straight(0, 1))
        self.assert_no_ring([(1, 2)], [(0, False), (0, True)])
        self.assert_no_ring([(1, 1)], straight(0, 0))
        self.assert_no_ring([(1, 2), (2, 1)], straight(0, 5, 1))

    def test_rows_with_steps_of_no_tile(self):
        for number in (-1, 9):
            self.assert_no_ring([(1, 1)], straight(number))
            self.assert_no_ring([(1, 1)], straight(number, 0))
            self.assert_no_ring([(1, 1)], straight(0, number))
            self.assert_no_ring([], straight(number))


class BegunAtTest(unittest.TestCase):
    def setUp(self):
        self.tiles = [(5, 1), (2, 1), (2, 1), (1, 1), (5, 1), (8, 9)]
        # The left marks are 5, 1, 2, 1, 1.
        self.ring = [(0, False), (1, True), (2, False), (3, True), (4, True)]

    def test_the_ring_is_one(self):
        self.assertIs(is_ring(self.tiles, self.ring), True)

    def test_at_a_mark_that_several_steps_have_at_the_left(self):
        told = begun_at(self.tiles, self.ring, 1)
        self.assertEqual(told, [(1, True), (2, False), (3, True), (4, True), (0, False)])

    def test_at_a_mark_that_one_step_has_at_the_left(self):
        told = begun_at(self.tiles, self.ring, 2)
        self.assertEqual(told, [(2, False), (3, True), (4, True), (0, False), (1, True)])

    def test_at_the_left_mark_of_the_last_step(self):
        told = begun_at([(1, 2), (2, 3), (3, 1)], straight(0, 1, 2), 3)
        self.assertEqual(told, straight(2, 0, 1))

    def test_at_the_mark_with_which_it_begins(self):
        told = begun_at(self.tiles, self.ring, 5)
        self.assertEqual(told, self.ring)
        self.assertIsNot(told, self.ring)

    def test_where_the_first_mark_comes_again(self):
        tiles = [(1, 2), (2, 1), (1, 3), (3, 1)]
        self.assertEqual(begun_at(tiles, straight(2, 3, 0, 1), 1), straight(2, 3, 0, 1))

    def test_a_ring_of_one_step(self):
        for turned in (False, True):
            self.assertEqual(begun_at([(4, 4)], [(0, turned)], 4), [(0, turned)])

    def test_a_row_is_told_that_is_still_a_ring(self):
        for mark in (5, 1, 2):
            told = begun_at(self.tiles, self.ring, mark)
            self.assertIs(type(told), list)
            self.assertIs(is_ring(self.tiles, told), True)
            self.assertEqual(faces(self.tiles, told[0])[0], mark)

    def test_a_mark_that_no_step_has_at_the_left_is_refused(self):
        # 8 and 9 stand on a tile that the ring doesn't lay; the others on none.
        for mark in (8, 9, 0, -1, 3, 10 ** 60, 10 ** 6000):
            with self.assertRaises(NoMark):
                begun_at(self.tiles, self.ring, mark)

    def test_the_ring_without_steps_is_refused(self):
        for mark in (0, 1, 5):
            with self.assertRaises(NoMark):
                begun_at(self.tiles, [], mark)
            with self.assertRaises(NoMark):
                begun_at([], [], mark)


if __name__ == "__main__":
    unittest.main()
