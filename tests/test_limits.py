"""Tests of seriesforms.limits: the eight names and their values."""

import unittest

from seriesforms import limits
from seriesforms.limits import (
    MOST_LEAD,
    MOST_LEVELS,
    MOST_LOAD,
    MOST_SEASON,
    MOST_SHIFT,
    MOST_SIZE,
    MOST_WIDTH,
    MOST_WINDOW,
)


class LimitsTest(unittest.TestCase):
    def test_values(self):
        self.assertEqual(MOST_SIZE, 60)
        self.assertEqual(MOST_LEVELS, 20)
        self.assertEqual(MOST_LEAD, 8)
        self.assertEqual(MOST_LOAD, 65536)
        self.assertEqual(MOST_WIDTH, 64)
        self.assertEqual(MOST_SHIFT, 8)
        self.assertEqual(MOST_WINDOW, 7)
        self.assertEqual(MOST_SEASON, 12)

    def test_there_are_eight_integers(self):
        names = [name for name in vars(limits) if name.startswith("MOST_")]
        self.assertEqual(len(names), 8)
        for name in names:
            with self.subTest(name=name):
                self.assertIs(type(getattr(limits, name)), int)


if __name__ == "__main__":
    unittest.main()
