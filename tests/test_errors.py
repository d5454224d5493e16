"""The interface of tilechain/errors.py."""

import unittest

from tilechain.errors import NoMark, NoTile, TileError


class ErrorsTest(unittest.TestCase):
    def test_a_tile_error_stands_under_value_error(self):
        self.assertTrue(issubclass(TileError, ValueError))
        self.assertIsNot(TileError, ValueError)

    def test_both_refusals_stand_under_tile_error(self):
        for refusal in (NoTile, NoMark):
            self.assertTrue(issubclass(refusal, TileError))
            self.assertIsNot(refusal, TileError)

    def test_neither_refusal_stands_under_the_other(self):
        self.assertFalse(issubclass(NoTile, NoMark))
        self.assertFalse(issubclass(NoMark, NoTile))


if __name__ == "__main__":
    unittest.main()
