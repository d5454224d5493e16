"""The ring that turns the fewest tiles, points [12] and [13], and the interface of tilechain/turns.py."""

import inspect
import itertools
import signal
import unittest

from tilechain.marks import counts
from tilechain.rows import one_ring
from tilechain.tiles import faces, is_ring
from tilechain.turns import least_turned


def turned_count(row):
    return sum(turned for number, turned in row)


def rings_from(tiles, row):
    """All rings that lay all tiles and begin with a row."""
    if len(row) == len(tiles):
        if is_ring(tiles, row):
            yield row
        return
    laid = [number for number, turned in row]
    for number in range(len(tiles)):
        if number not in laid:
            for step in ((number, False), (number, True)):
                if faces(tiles, step)[0] == faces(tiles, row[-1])[1]:
                    yield from rings_from(tiles, row + [step])


def fewest_turns(tiles):
    # A ring may be begun at any of its steps, so it is enough to begin with tile 0.
    rings = itertools.chain(rings_from(tiles, [(0, False)]), rings_from(tiles, [(0, True)]))
    return min(turned_count(ring) for ring in rings)


def closed_walk(marks, turns):
    """The tiles on the way round the marks, with those handed in the other way about that turns says."""
    tiles = list(zip(marks, marks[1:] + marks[:1]))
    return [tile[::-1] if turned else tile for tile, turned in zip(tiles, turns)]


class TurnsTest(unittest.TestCase):
    def setUp(self):
        # Point [13]: an answer that doesn't come within seconds fails its test, and is not waited for.
        signal.signal(signal.SIGALRM, self.late)
        signal.alarm(20)
        self.addCleanup(signal.alarm, 0)

    def late(self, number, frame):
        raise AssertionError("not answered within seconds")

    def assert_least(self, tiles, turned=None):
        told = least_turned(tiles)
        self.assertIs(type(told), tuple)
        self.assertEqual([type(value) for value in told], [str, list, list])
        word, row, prices = told
        self.assertEqual(word, "ring")
        self.assert_ring(tiles, row)
        self.assert_prices(tiles, row, prices)
        if turned is not None:
            self.assertEqual(turned_count(row), turned)

    def assert_ring(self, tiles, row):
        for step in row:
            self.assertIs(type(step), tuple)
            self.assertEqual([type(value) for value in step], [int, bool])
        self.assertIs(is_ring(tiles, row), True)
        self.assertEqual(len(row), len(tiles))

    def assert_prices(self, tiles, row, prices):
        for pair in prices:
            self.assertIs(type(pair), tuple)
            self.assertEqual([type(value) for value in pair], [int, int])
        self.assertEqual([mark for mark, price in prices], [mark for mark, often in counts(tiles)])
        price_of = dict(prices)
        for number, turned in row:
            one, other = tiles[number]
            rise = price_of[other] - price_of[one]
            if turned:
                self.assertGreaterEqual(rise, 1)
                self.assertNotEqual(one, other)
            else:
                self.assertLessEqual(rise, 1)


class InterfaceTest(unittest.TestCase):
    def test_names_of_the_arguments(self):
        self.assertEqual(list(inspect.signature(least_turned).parameters), ["tiles"])


class LeastTurnedTest(TurnsTest):
    def test_tiles_that_need_no_turn(self):
        self.assert_least([(1, 2), (2, 3), (3, 1)], 0)
        self.assert_least([(2, 1), (3, 2), (1, 3)], 0)
        self.assert_least([(1, 2), (2, 3), (3, 1), (3, 4), (4, 5), (5, 3)], 0)
        self.assert_least([(1, 2), (2, 3), (3, 1), (4, 3), (5, 4), (3, 5)], 0)

    def test_the_ring_taken_the_other_way_round(self):
        self.assert_least([(1, 2), (3, 2), (3, 1)], 1)
        self.assert_least([(2, 1), (2, 3), (3, 1)], 1)
        self.assert_least([(2, 1), (3, 2), (4, 3), (5, 4), (5, 1)], 1)

    def test_half_of_the_tiles_turned(self):
        self.assert_least([(1, 2), (1, 2)], 1)
        self.assert_least([(1, 2), (3, 2), (3, 4), (1, 4)], 2)

    def test_each_way_round_taken_for_itself(self):
        self.assert_least([(1, 2), (2, 3), (3, 1), (4, 3), (5, 4), (5, 3)], 1)
        self.assert_least([(0, 1), (2, 1), (2, 0), (0, 3), (4, 3), (0, 4), (5, 0), (5, 6), (6, 0)], 3)

    def test_ways_round_that_share_marks(self):
        self.assert_least([(1, 2), (1, 2), (1, 2), (2, 1)], 1)
        self.assert_least([(1, 2)] * 6, 3)
        self.assert_least([(1, 2), (2, 4), (1, 3), (3, 4)], 2)
        self.assert_least([(1, 2), (2, 4), (1, 3), (3, 4), (4, 1), (4, 1)], 0)

    def test_tiles_with_like_ends_never_lie_turned(self):
        self.assert_least([(4, 4)], 0)
        self.assert_least([(4, 4), (4, 4), (4, 4)], 0)
        self.assert_least([(2, 2), (1, 2), (1, 1), (3, 2), (2, 2), (3, 1), (3, 3)], 1)

    def test_marks_of_any_size_and_below_nought(self):
        high = 10 ** 60 - 1
        self.assert_least([(high, -high), (high - 1, -high), (high, high - 1)], 1)
        self.assert_least([(-1, -2), (-3, -2), (-3, 0), (0, -1)], 1)

    def test_no_tiles(self):
        self.assertEqual(least_turned([]), ("ring", [], []))
        self.assert_least([], 0)


class ReasonTest(unittest.TestCase):
    def assert_reason(self, tiles, wanted):
        told = least_turned(tiles)
        self.assertEqual(told, wanted)
        self.assertEqual(told, one_ring(tiles))
        self.assertEqual([type(told), type(told[0]), type(told[1])], [tuple, str, list])

    def test_odd_marks(self):
        self.assert_reason([(2, 1)], ("odd", [1, 2]))
        self.assert_reason([(1, 2), (2, 3), (2, -4), (5, 2)], ("odd", [-4, 1, 3, 5]))

    def test_several_parts(self):
        self.assert_reason([(4, 4), (3, 3)], ("parted", [[3], [4]]))
        self.assert_reason([(1, 2), (9, 8), (8, 9)], ("parted", [[1, 2], [8, 9]]))


class EverySmallSetTest(TurnsTest):
    """Held against all rings that lay all tiles."""

    def check(self, tiles):
        self.assert_least(tiles, fewest_turns(tiles))

    def test_up_to_four_tiles(self):
        for count in (1, 2, 3, 4):
            for marks in itertools.product((2, -1, 0), repeat=count):
                for turns in itertools.product((False, True), repeat=count):
                    self.check(closed_walk(list(marks), turns))

    def test_five_tiles_of_four_marks(self):
        for marks in itertools.product((6, 2, 9), (-1, 2, 6), (6, 9), (-1, 2)):
            for turns in itertools.product((False, True), repeat=5):
                self.check(closed_walk([-1] + list(marks), turns))

    def test_seven_tiles(self):
        for marks in ([0, 1, 2, 0, 1, 2, 3], [0, 1, 2, 3, 1, 0, 2], [5, 4, 3, 2, 1, 3, 4]):
            for turns in itertools.product((False, True), repeat=7):
                self.check(closed_walk(marks, turns))


class ThreeHundredTilesTest(TurnsTest):
    """Point [13]: all is told for three hundred tiles as for three; the prices show that none turns fewer."""

    def test_a_ring_of_many_marks(self):
        marks = list(range(300))
        self.assert_least(closed_walk(marks, [False] * 300), 0)
        self.assert_least(closed_walk(marks, [True] * 300), 0)
        self.assert_least(closed_walk(marks, [n % 2 == 0 for n in marks]), 150)
        self.assert_least(closed_walk(marks, [n < 149 for n in marks]), 149)
        self.assert_least(closed_walk(marks, [n < 151 for n in marks]), 149)
        self.assert_least(closed_walk(marks, [n % 3 != 0 for n in marks]), 100)

    def test_few_marks(self):
        for count in (1, 2, 3, 4, 7, 11, 31):
            marks = [(n * n * 7 + n * 3) % count for n in range(300)]
            self.assert_least(closed_walk(marks, [False] * 300), 0)
            self.assert_least(closed_walk(marks, [n % 5 < 3 for n in range(300)]))
            self.assert_least(closed_walk(marks, [n < 150 for n in range(300)]))

    def test_tiles_that_are_alike(self):
        self.assert_least([(1, 2)] * 300, 150)
        self.assert_least([(1, 2)] * 200 + [(2, 1)] * 100, 50)
        self.assert_least([(1, 1)] * 300, 0)

    def test_many_ways_round_at_one_mark(self):
        self.assert_least([tile for n in range(1, 101) for tile in ((0, n), (n, -n), (0, -n))], 100)
        self.assert_least([tile for n in range(1, 101) for tile in ((n, 0), (-n, n), (0, -n))], 0)

    def test_many_ways_between_two_marks(self):
        for length in (2, 3, 10, 15, 75, 150):
            tiles = []
            for way in range(300 // length):
                marks = [-1] + [way * 1000 + n for n in range(length - 1)] + [-2]
                tiles.extend(zip(marks, marks[1:]))
            self.assertEqual(len(tiles), 300)
            self.assert_least(tiles, 150)

    def test_a_net_of_marks(self):
        # Twelve times twelve marks, each with a tile to the one beside it and to the one below it.
        tiles = []
        for place in range(144):
            beside = place - place % 12 + (place + 1) % 12
            below = (place + 12) % 144
            tiles.append((place, beside) if place * place % 7 < 3 else (beside, place))
            tiles.append((place, below) if place * place % 11 < 6 else (below, place))
        self.assert_least(tiles)

    def test_somewhat_more_tiles_are_not_refused(self):
        self.assert_least(closed_walk(list(range(310)), [n % 2 == 0 for n in range(310)]), 155)


if __name__ == "__main__":
    unittest.main()
