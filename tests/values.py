"""Values of all kinds to hand over where an argument has an error, and how to ask for that error."""

import unittest

from spansieve.errors import TooMany, WrongMoment
from spansieve.plans import Plan


class Alike:
    """Calls itself equal to everything; nothing may be taken in by it."""

    def __eq__(self, other):
        return True

    def __ne__(self, other):
        return True


class Silent:
    """Cannot be compared, shown, hashed, measured or tested."""

    __hash__ = None

    def fail(self, *_):
        raise RuntimeError("nobody should have asked")

    __eq__ = __ne__ = __lt__ = __gt__ = __le__ = __ge__ = __repr__ = __str__ = __len__ = __bool__ = __iter__ = fail


def nested(depth):
    """Return a tuple that is nested so deep."""
    value = ()
    for _ in range(depth):
        value = (value,)
    return value


# Neither integers nor strings, and as rows none that a plan has.
ODD = (None, True, False, b"A", b"5", [], [5], {}, {"A": (0,)}, {0}, frozenset("A"), object(), Alike(), Silent(), int,
       str, len, Plan, Plan(5), Plan.read, ("A",), nested(15), range(2), iter("A"), ValueError("A"))
STRINGS = ("", "A", "5", "A" * 49999)
INTEGERS = (0, 1, -1, 5, 10**39, -(10**39))

# Texts of sieves that are too great: by some hundred stands, by one stand, as the whole and in a part alone.
TOO_GREAT = ("(move 6 (move 4 A))", "(move -6 (move -6 A))",
             "(held (long 2 C) (grid 5 (begun (move -5 B) (pad 0 1 C))))", "(and none (move 6 (move 4 A)))",
             "(first 0 (move -6 (move -6 Q)))", "(trim 1 1 (long 1 (or (move 6 A) (move -6 B))))")


class Case(unittest.TestCase):
    """A test case that can ask for an error, its base class and what it was given."""

    def check_too_many(self, deed, *args, **more):
        with self.assertRaises(TooMany) as held:
            deed(*args, **more)
        self.assertIs(type(held.exception), TooMany)
        self.assertIsInstance(held.exception, WrongMoment)
        self.assertEqual(held.exception.limit, 1000)

    def check_raises(self, wrong, base, given, deed, *args, **more):
        with self.assertRaises(wrong) as held:
            deed(*args, **more)
        self.assertIs(type(held.exception), wrong)
        self.assertIsInstance(held.exception, base)
        self.assertIs(held.exception.given, given)
