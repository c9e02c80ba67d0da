"""The interface of spansieve/limits.py: six numbers."""

import unittest

from spansieve import limits


class LimitsTest(unittest.TestCase):
    def test_the_six_numbers(self):
        expected = {
            "MOST_TICKS": 10000,
            "MOST_PARTS": 12,
            "MOST_NAMES": 3,
            "MOST_DEEP": 7,
            "MOST_NUMBER": 6,
            "MOST_STANDS": 1000,
        }
        found = {name: worth for name, worth in vars(limits).items() if name.isupper()}
        self.assertEqual(found, expected)

    def test_they_are_integers(self):
        for name in ("MOST_TICKS", "MOST_PARTS", "MOST_NAMES", "MOST_DEEP", "MOST_NUMBER", "MOST_STANDS"):
            self.assertIs(type(getattr(limits, name)), int)


if __name__ == "__main__":
    unittest.main()
