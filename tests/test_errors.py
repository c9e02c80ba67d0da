"""Point 4 and the interface of spansieve/errors.py."""

import unittest

from spansieve import errors

BASES = {"WrongValue": ValueError, "WrongMoment": LookupError}

# Each class: its base class and its attributes, in their order.
CLASSES = {
    "InvalidText": ("WrongValue", ("given",)),
    "InvalidNumber": ("WrongValue", ("given",)),
    "InvalidRows": ("WrongValue", ("given",)),
    "InvalidName": ("WrongValue", ("given",)),
    "InvalidTicks": ("WrongValue", ("given",)),
    "InvalidWish": ("WrongValue", ("given",)),
    "NotASieve": ("WrongValue", ("given",)),
    "NotAPlan": ("WrongValue", ("given",)),
    "UnknownName": ("WrongMoment", ("given",)),
    "TooMany": ("WrongMoment", ("limit",)),
    "Ended": ("WrongMoment", ()),
    "InUse": ("WrongMoment", ("index",)),
    "NothingToUndo": ("WrongMoment", ()),
    "NotKept": ("WrongMoment", ("index", "shown")),
}

SHOWING_NOTHING = type("ShowingNothing", (), {"__repr__": None, "__str__": None, "__eq__": None})

WORTHS = (None, True, 0, -1, 10**39, "", "A", b"x", (), [1], {"a": 1}, {1}, object(), int, len, SHOWING_NOTHING())


class ErrorsTest(unittest.TestCase):
    def test_there_are_no_other_classes(self):
        found = {name for name, worth in vars(errors).items() if isinstance(worth, type)}
        self.assertEqual(found, set(BASES) | set(CLASSES))

    def test_the_two_base_classes(self):
        for name, base in BASES.items():
            self.assertEqual(getattr(errors, name).__bases__, (base,))

    def test_each_class_stands_under_one_base_class_and_no_other(self):
        for name, (base, _) in CLASSES.items():
            with self.subTest(name):
                made = getattr(errors, name)
                self.assertEqual(made.__bases__, (getattr(errors, base),))
                own = [line for line in made.__mro__ if line.__module__.startswith("spansieve")]
                self.assertEqual(own, [made, getattr(errors, base)])

    def test_attributes_by_place(self):
        for name, (_, attributes) in CLASSES.items():
            for at in range(len(WORTHS)):
                worths = (WORTHS[at], WORTHS[at - 1])[: len(attributes)]
                with self.subTest(name, at=at):
                    self.check_attributes(getattr(errors, name)(*worths), attributes, worths)

    def test_attributes_by_name(self):
        for name, (_, attributes) in CLASSES.items():
            for at in range(len(WORTHS)):
                worths = (WORTHS[at], WORTHS[at - 1])[: len(attributes)]
                with self.subTest(name, at=at):
                    named = dict(reversed(list(zip(attributes, worths))))
                    self.check_attributes(getattr(errors, name)(**named), attributes, worths)

    def check_attributes(self, error, attributes, worths):
        self.assertEqual(tuple(vars(error)), attributes)
        for attribute, worth in zip(attributes, worths):
            self.assertIs(getattr(error, attribute), worth)

    def test_attributes_are_asked_for(self):
        for name, (_, attributes) in CLASSES.items():
            if attributes:
                with self.subTest(name), self.assertRaises(TypeError):
                    getattr(errors, name)()

    def test_they_can_be_raised_and_caught_by_their_bases(self):
        for name, (base, attributes) in CLASSES.items():
            for caught in (getattr(errors, base), BASES[base]):
                with self.subTest(name), self.assertRaises(caught) as held:
                    raise getattr(errors, name)(*range(len(attributes)))
                self.assertIs(type(held.exception), getattr(errors, name))

    def test_errors_are_equal_to_themselves_alone_and_true(self):
        for name, (_, attributes) in CLASSES.items():
            one, other = [getattr(errors, name)(*attributes) for _ in range(2)]
            self.assertTrue(one == one and one != other and not one == other)
            self.assertTrue(one)


if __name__ == "__main__":
    unittest.main()
