"""Of which kind a value is (point 3), apart from any plan."""

import unittest

from spansieve.kinds import are_rows, are_ticks, is_integer_from, is_name, is_rising


class KindsTest(unittest.TestCase):
    def test_integers(self):
        for value in (-2, 0, 3):
            self.assertIs(is_integer_from(value, -2, 3), True)
        for value in (-3, 4, True, False, None, "1", (1,), 10**39, b"\x01", [0], object()):
            self.assertIs(is_integer_from(value, -2, 3), False)

    def test_names(self):
        for value in "ABCDEFGHIJKLMNOPQRSTUVWXYZ":
            self.assertIs(is_name(value), True)
        for value in ("", "AA", "AB", "a", "@", "[", "1", " ", "A ", "\n", "\xc4", "\uff21", b"A", 65, None, ("A",)):
            self.assertIs(is_name(value), False)

    def test_rising(self):
        for row in ((), (1,), (1, 2), ("A", "B", "Z"), [0, 5, 7]):
            self.assertIs(is_rising(row), True)
        for row in ((1, 1), (2, 1), (1, 2, 2), (0, 2, 1), ["B", "A"]):
            self.assertIs(is_rising(row), False)

    def test_ticks(self):
        for value in ((), (0,), (2,), (0, 1, 2), (0, 2)):
            self.assertIs(are_ticks(value, 3), True)
        for value in ([], [0], (3,), (-1,), (0, 0), (1, 0), (True,), (False, 1), ("0",), None, 0, "", {0}, range(2)):
            self.assertIs(are_ticks(value, 3), False)
        self.assertIs(are_ticks((), 0), True)
        self.assertIs(are_ticks((0,), 0), False)

    def test_rows(self):
        for value in ((), (("A", ()),), (("A", (0,)), ("C", (0, 1)))):
            self.assertIs(are_rows(value, 2), True)
        for value in ([], None, (("A", ()), ("A", ())), (("B", ()), ("A", ())), (("A", (2,)),), ("A", ())):
            self.assertIs(are_rows(value, 2), False)


if __name__ == "__main__":
    unittest.main()
