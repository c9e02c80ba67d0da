"""Points 2 and 11 and the interface of spansieve/looking.py."""

import random
import unittest

import second_way
from spansieve.errors import InvalidNumber, NotASieve, TooMany, WrongMoment, WrongValue
from spansieve.looking import ahead, back, unsure
from spansieve.machines import machine
from spansieve.pairs import ahead_by_pairs, back_by_pairs, unsure_by_pairs
from spansieve.plans import Plan
from spansieve.readings import Readings
from spansieve.sieves import Sieve
from values import INTEGERS, ODD, STRINGS, Case, nested

TOO_GREAT = ("(move 6 (move 4 A))", "(and none (move 6 (move 4 A)))",
             "(held (long 2 C) (grid 5 (begun (move -5 B) (pad 0 1 C))))")

# How far ahead and back each word looks, by hand: from its numbers.
REACHES = {
    "not": lambda: (0, 0),
    "move": lambda number: (max(0, -number), max(0, number)),
    "pad": lambda one, other: (one, other),
    "trim": lambda one, other: (other, one),
    "fill": lambda number: (number, number),
    "short": lambda number: (max(0, number - 1), max(0, number - 1)),
    "long": lambda number: (number, number),
    "first": lambda number: (0, number),
    "last": lambda number: (number, 0),
    "grid": lambda number: (number - 1, number - 1),
}
REACHES_OF_TWO = {"and": (0, 0), "or": (0, 0), "less": (0, 0), "meeting": (None, None), "inside": (None, None),
                  "begun": (0, None), "ended": (None, 0), "held": (0, None)}

# Operations within one another, by hand.
WITHIN = (
    ("(move 2 (move 3 A))", 0, 5),
    ("(move -2 (move -3 A))", 5, 0),
    # What is moved off the line is lost, but where the line ends is known from the tick and the number of ticks.
    ("(move 3 (move -3 A))", 0, 0),
    ("(move -3 (move 3 A))", 3, 0),
    ("(pad 1 2 (pad 3 4 A))", 4, 6),
    ("(trim 1 2 (trim 3 4 A))", 6, 4),
    ("(pad 6 6 (pad 6 6 (pad 6 6 A)))", 18, 18),
    ("(fill 3 (fill 2 A))", 3, 3),
    ("(not (not A))", 0, 0),
    ("(and (move 4 A) (move -3 B))", 3, 4),
    ("(or (move 4 A) (pad 1 6 A))", 1, 6),
    ("(less (move 4 A) (move 4 A))", 0, 0),
    ("(held (move 2 A) (not (move 2 A)))", 0, 2),
    ("(first 0 (move -6 A))", 0, 0),
    ("(first 1 (long 2 A))", 2, 1),
    ("(last 1 (long 2 A))", 1, 2),
    ("(meeting (long 2 A) B)", 2, 2),
    ("(inside (long 3 A) B)", 3, 3),
    ("(grid 2 (grid 3 A))", 3, 3),
    ("(grid 4 (grid 2 A))", 3, 3),
    ("(held (held A B) C)", 0, None),
    ("(ended (held A B) C)", None, None),
    ("none", 0, 0),
    ("all", 0, 0),
    # One must see whether the line has so many ticks, but plans with the same number of ticks tell the same.
    ("(short 3 all)", 2, 0),
    ("(last 2 all)", 2, 0),
    ("(first 2 all)", 0, 0),
    ("(meeting all A)", None, None),
)


class LookingCase(Case):
    def check_reach(self, text, forward, backward):
        sieve = Sieve(text)
        with self.subTest(text):
            self.assertEqual((ahead(sieve), back(sieve)), (forward, backward))
            self.assertEqual((ahead(sieve=sieve), back(sieve=sieve)), (forward, backward))
            for told in (ahead(sieve), back(sieve)):
                self.assertIn(type(told), (int, type(None)))
            self.check_unsure(text, forward)

    def check_unsure(self, text, forward):
        sieve = Sieve(text)
        for number in (0, 1, 2, 5, 40):
            told = unsure(sieve, number)
            self.assertEqual(unsure(number=number, sieve=sieve), told)
            if forward is not None and number >= forward:
                self.assertIsNone(told)
            else:
                self.check_triple(text, number, told)
        if forward:
            self.check_triple(text, forward - 1, unsure(sieve, forward - 1))
            self.assertIsNone(unsure(sieve, forward))

    def check_triple(self, text, number, told):
        """Ask whether two plans and a tick show that a number is not enough."""
        self.assertEqual((type(told), tuple(map(type, told))), (tuple, (Plan, Plan, int)))
        first, last, tick = told
        self.assertEqual((first.names, last.names), (Sieve(text).names,) * 2)
        self.assertTrue(tick >= 0 and first.size > tick + number and last.size > tick + number)
        self.assertEqual(first.cut(tick + number + 1), last.cut(tick + number + 1))
        if max(first.size, last.size) < 60:
            self.assertNotEqual(tick in second_way.answer(text, first), tick in second_way.answer(text, last))
        self.assertNotEqual(tick in Sieve(text).run(first), tick in Sieve(text).run(last))


class ReachTest(LookingCase):
    def test_examples_of_the_document(self):
        texts = ("A", "(move 2 A)", "(move -2 A)", "(pad 1 3 A)", "(short 3 A)", "(held A B)", "(inside A B)", "(grid 4 A)")
        told = ((0, 0), (0, 2), (2, 0), (1, 3), (2, 2), (0, None), (None, None), (3, 3))
        for text, (forward, backward) in zip(texts, told):
            self.check_reach(text, forward, backward)
        first, last, tick = unsure(Sieve("(move -2 A)"), 1)
        self.assertEqual(first.cut(tick + 2), last.cut(tick + 2))

    def test_each_word_with_each_number(self):
        for word, heads in second_way.HEADS.items():
            for head in heads:
                numbers = tuple(map(int, head.split()[1:]))
                forward, backward = REACHES[word](*numbers)
                # Nothing is left of what keeps no tick at all.
                if head in ("long 0", "first 0", "last 0"):
                    forward, backward = 0, 0
                self.check_reach(f"({head} A)", forward, backward)

    def test_each_word_with_two_operands(self):
        for word, (forward, backward) in REACHES_OF_TWO.items():
            self.check_reach(f"({word} A B)", forward, backward)

    def test_operations_within_one_another(self):
        for text, forward, backward in WITHIN:
            self.check_reach(text, forward, backward)

    def test_against_all_plans_of_few_ticks(self):
        chance = random.Random(11)
        for _ in range(60):
            names = "AB"[:chance.randint(1, 2)]
            text = second_way.made_up(chance, names, chance.randint(1, 4), 4)
            most = {1: 8, 2: 4}[len(names)]
            sieve = Sieve(text)
            for told, slow in ((ahead(sieve), second_way.least_ahead(text, most)),
                               (back(sieve), second_way.least_back(text, most))):
                with self.subTest(text):
                    # What plans of few ticks show is a part of what all plans show.
                    self.assertTrue(told is None or slow <= told, (told, slow))
            self.check_unsure(text, ahead(sieve))

    def test_against_all_plans_of_few_ticks_where_they_show_it(self):
        for text in ("(pad 1 2 A)", "(trim 2 1 A)", "(fill 2 A)", "(short 3 A)", "(long 2 A)", "(first 2 A)", "(last 2 A)",
                     "(grid 3 A)", "(move 2 (not A))", "(move -2 (fill 1 A))", "(short 2 (fill 1 A))", "(not (pad 1 0 A))",
                     "(fill 1 (short 2 A))", "(grid 2 (move 1 A))", "(first 1 (long 2 A))", "(short 3 all)", "(last 1 (not A))",
                     "(trim 1 1 (not A))", "(less (pad 1 1 A) A)", "(move 1 (move -2 A))", "(fill 2 (last 1 A))"):
            self.check_reach(text, second_way.least_ahead(text, 9), second_way.least_back(text, 9))
        for text in ("(and (move 1 A) B)", "(less (fill 1 A) B)", "(or (move -1 A) (move 1 B))", "(long 1 (or A B))"):
            self.check_reach(text, second_way.least_ahead(text, 5), second_way.least_back(text, 5))
        for text, most in (("(held A B)", 5), ("(begun A B)", 5), ("(meeting A B)", 5), ("(inside A B)", 5)):
            self.assertEqual((back(Sieve(text)), second_way.least_back(text, most)), (None, most - 1))
        for text, most in (("(ended A B)", 5), ("(meeting A B)", 5), ("(inside A B)", 5)):
            self.assertEqual((ahead(Sieve(text)), second_way.least_ahead(text, most)), (None, most - 1))

    def test_great_machines(self):
        self.check_reach("(move 6 (move 3 A))", 0, 9)
        self.check_reach("(move -6 (move -2 A))", 8, 0)
        self.check_reach("(less (fill 3 A) (or (fill 3 B) (short 3 C)))", 3, 3)


class PairsTest(LookingCase):
    def test_pairs_of_stands_tell_the_same_as_readings(self):
        chance = random.Random(14)
        for _ in range(150):
            text = second_way.made_up(chance, "ABC"[:chance.randint(1, 3)], chance.randint(1, 5))
            sieve = Sieve(text)
            try:
                made = machine(sieve)
            except TooMany:
                continue
            if made.many < 150:
                self.assertEqual((ahead_by_pairs(made), back_by_pairs(made)), (ahead(sieve), back(sieve)), text)
                for number in (0, 1, 2, 5, 40):
                    told = unsure_by_pairs(made, number)
                    self.assertEqual(told is None, unsure(sieve, number) is None)
                    if told is not None:
                        self.check_triple(text, number, told)

    def test_more_readings_than_there_is_room_for(self):
        # What will be answered to ticks behind is known of some and not of others, in all ways that there are.
        text = "(move -4 (or (move 3 A) (trim 6 6 (move -5 B))))"
        readings = Readings(machine(Sieve(text)))
        readings.known()
        self.assertTrue(readings.full)
        self.check_reach(text, 15, 0)
        readings = Readings(machine(Sieve("(pad 2 2 A)")))
        readings.known()
        self.assertFalse(readings.full)


class UnsureTest(LookingCase):
    def test_numbers_up_to_the_last_one(self):
        for text in ("(meeting A B)", "(inside A B)", "(ended A B)", "(meeting all A)", "(not (inside (fill 1 A) B))",
                     "(ended (grid 3 A) (move -2 B))"):
            for number in (0, 1, 7, 999, 1000):
                self.check_triple(text, number, unsure(Sieve(text), number))
        for text in ("A", "none", "(held A B)", "(move 6 A)", "(begun A B)"):
            for number in (0, 1, 7, 999, 1000):
                self.assertIsNone(unsure(Sieve(text), number))

    def test_numbers_that_are_none(self):
        for text in ("A", "(meeting A B)", TOO_GREAT[0]):
            sieve = Sieve(text)
            for number in ODD + STRINGS + (-1, 1001, 1002, 10**39, -(10**39), nested(15), sieve):
                self.check_raises(InvalidNumber, WrongValue, number, unsure, sieve, number)
                self.check_raises(InvalidNumber, WrongValue, number, unsure, number=number, sieve=sieve)


class ErrorsTest(LookingCase):
    def test_what_is_no_sieve(self):
        for given in ODD + STRINGS + INTEGERS + ("(not A)", nested(15), Sieve, [Sieve("A")]):
            for deed in (ahead, back):
                self.check_raises(NotASieve, WrongValue, given, deed, given)
                self.check_raises(NotASieve, WrongValue, given, deed, sieve=given)
            for number in (0, 1000, -1, 1001, True, None):
                self.check_raises(NotASieve, WrongValue, given, unsure, given, number)
                self.check_raises(NotASieve, WrongValue, given, unsure, number=number, sieve=given)

    def test_sieves_that_are_too_great(self):
        for text in TOO_GREAT:
            for deed in (ahead, back, lambda sieve: unsure(sieve, 0), lambda sieve: unsure(sieve, 1000)):
                with self.assertRaises(TooMany) as held:
                    deed(Sieve(text))
                self.assertIs(type(held.exception), TooMany)
                self.assertIsInstance(held.exception, WrongMoment)
                self.assertEqual(held.exception.limit, 1000)

    def test_nothing_is_changed(self):
        sieve = Sieve("(meeting (fill 1 A) B)")
        before = dict(vars(sieve))
        for _ in range(2):
            self.assertEqual((ahead(sieve), back(sieve), unsure(sieve, 3)), (ahead(sieve), back(sieve), unsure(sieve, 3)))
        self.assertEqual(vars(sieve), before)


if __name__ == "__main__":
    unittest.main()
