"""Points 2, 3, 7, 9 and 10 and the interface of spansieve/lengths.py."""

import random
import unittest

import second_way
from spansieve.errors import NotASieve, TooMany, WrongMoment, WrongValue
from spansieve.lengths import longest_gap, longest_run
from spansieve.sieves import Sieve
from values import INTEGERS, ODD, STRINGS, TOO_GREAT, Case, nested

# The first and the last tick of each line, and the seventh one.
FIRST = "(not (move 1 all))"
LAST = "(not (move -1 all))"
SEVENTH = f"(move 6 {FIRST})"

# Worked out by hand: the longest run and the longest gap.
BY_HAND = {
    "A": (None, None),
    "Q": (None, None),
    "none": (0, 0),
    "all": (None, 0),
    "(not A)": (None, None),
    "(less A A)": (0, 0),
    "(or A (not A))": (None, 0),
    "(less A B)": (None, None),
    "(move 1 (less A A))": (0, 0),
    "(move 6 all)": (None, 0),
    "(move -6 all)": (None, 0),
    "(trim 2 3 all)": (None, 0),
    "(first 5 all)": (5, 0),
    "(last 1 all)": (1, 0),
    "(long 3 all)": (3, 0),
    "(short 3 all)": (None, 0),
    "(held A none)": (None, 0),
    "(meeting all A)": (None, 0),
    "(inside all A)": (None, 0),
    "(not (inside all A))": (None, 0),
    # One tick, and one tick less.
    FIRST: (1, 0),
    LAST: (1, 0),
    SEVENTH: (1, 0),
    f"(not {SEVENTH})": (None, 1),
    f"(or {FIRST} {SEVENTH})": (1, 5),
    f"(or {FIRST} (move 2 {FIRST}))": (1, 1),
    f"(or {FIRST} (move 1 {FIRST}))": (2, 0),
    f"(or {FIRST} {LAST})": (2, None),
    f"(pad 0 2 {SEVENTH})": (3, 0),
    f"(pad 2 0 {SEVENTH})": (3, 0),
    f"(pad 6 6 {SEVENTH})": (13, 0),
    f"(not (pad 1 1 {SEVENTH}))": (None, 3),
    f"(first 4 (not {SEVENTH}))": (4, 3),
    f"(grid 4 {SEVENTH})": (4, 0),
    f"(not (grid 4 {SEVENTH}))": (None, 4),
    f"(held {SEVENTH} {LAST})": (None, 0),
    "(long 4 A)": (4, None),
    "(long 0 A)": (0, 0),
    "(first 2 A)": (2, None),
    "(last 6 A)": (6, None),
    "(trim 1 2 (long 6 A))": (3, None),
    "(trim 3 3 (long 6 A))": (0, 0),
    "(short 4 (long 4 A))": (4, None),
    "(short 5 (long 4 A))": (0, 0),
    "(pad 1 1 (first 1 (long 1 A)))": (None, None),
    "(pad 1 0 (first 1 (long 1 A)))": (None, None),
    "(less (fill 6 A) (move 1 (first 1 A)))": (None, None),
    "(not (short 3 A))": (None, None),
    "(not (long 5 A))": (None, 5),
    "(not (first 2 A))": (None, 2),
    "(not (last 4 A))": (None, 4),
    "(less A (first 1 A))": (None, None),
    "(less (fill 6 A) A)": (6, None),
    "(less (fill 2 A) A)": (2, None),
    "(or A (not (fill 3 A)))": (None, 3),
    "(less (pad 2 0 A) A)": (2, None),
    "(less (pad 0 3 A) A)": (3, None),
    "(less (grid 5 A) A)": (8, None),
    "(or A (not (grid 5 A)))": (None, 8),
    "(and (first 3 A) (last 2 A))": (2, None),
    "(first 2 (or A (or B C)))": (2, None),
    "(long 3 (and C (or A B)))": (3, None),
    "(meeting (long 3 A) B)": (3, None),
    "(move -4 (first 3 (short 3 A)))": (3, None),
    "(begun A (first 1 A))": (None, None),
    "(ended (long 2 A) B)": (2, None),
    "(inside (long 6 A) (long 4 B))": (4, None),
}


class ByHandTest(Case):
    def test_examples_of_the_document(self):
        self.assertEqual(list(map(lambda text: longest_run(Sieve(text)), (
            "A", "none", "(long 4 A)", "(first 2 A)", "(pad 1 1 (first 1 (long 1 A)))", "(move 1 (less A A))"))),
            [None, 0, 4, 2, None, 0])
        self.assertEqual(list(map(lambda text: longest_gap(Sieve(text)), (
            "A", "all", "(not (short 3 A))", "(less (fill 6 A) (move 1 (first 1 A)))"))), [None, 0, None, None])

    def test_lengths_worked_out_by_hand(self):
        for text, (run, gap) in BY_HAND.items():
            with self.subTest(text):
                sieve = Sieve(text)
                told = [longest_run(sieve), longest_gap(sieve)]
                self.assertEqual(told, [run, gap])
                self.assertEqual([longest_run(sieve=sieve), longest_gap(sieve=sieve)], told)
                self.assertLessEqual(set(map(type, told)), {int, type(None)})

    def test_each_number(self):
        for number in range(7):
            for word in ("long", "first", "last"):
                self.assertEqual(longest_run(Sieve(f"({word} {number} A)")), number)
                self.assertEqual(longest_gap(Sieve(f"(not ({word} {number} A))")), number)
            self.assertEqual(longest_run(Sieve(f"(less (fill {number} A) A)")), number)
            self.assertEqual(longest_run(Sieve(f"(pad {number} 0 {SEVENTH})")), number + 1)
            self.assertEqual(longest_run(Sieve(f"(pad 6 {number} {SEVENTH})")), number + 7)
            self.assertEqual(longest_run(Sieve(f"(trim {number} 1 (long 6 A))")), max(0, 5 - number))
        for number in range(2, 7):
            self.assertEqual(longest_run(Sieve(f"(grid {number} {SEVENTH})")), number)
            self.assertEqual(longest_run(Sieve(f"(less (grid {number} A) A)")), 2 * number - 2)

    def test_other_names(self):
        for text, (run, gap) in BY_HAND.items():
            renamed = text.translate(str.maketrans("ABC", "XZK"))
            self.assertEqual([longest_run(Sieve(renamed)), longest_gap(Sieve(renamed))], [run, gap], renamed)


class AllPlansTest(Case):
    def test_no_plan_of_few_ticks_has_a_longer_run_or_gap(self):
        chance = random.Random(8)
        for _ in range(120):
            names = "AB"[:chance.randint(1, 2)]
            self.check_against_plans(second_way.made_up(chance, names, chance.randint(1, 6)), {1: 8, 2: 4}[len(names)])

    def test_a_plan_of_few_ticks_has_the_longest_run_and_gap(self):
        for text in ("(long 2 A)", "(first 3 A)", "(less (fill 2 A) A)", "(not (long 3 A))", "(trim 1 1 (long 4 A))",
                     "(less (grid 2 A) A)", "(less (pad 1 0 A) (pad 0 1 A))", "(and (first 2 A) (last 2 A))",
                     "(short 2 (long 2 (not A)))", "(move 2 (last 1 A))", "(not (first 3 (not A)))", "(less A A)"):
            runs, gaps = self.check_against_plans(text, 9)
            for told, seen in ((longest_run(Sieve(text)), runs), (longest_gap(Sieve(text)), gaps)):
                self.assertIn(told, (None, seen), text)

    def check_against_plans(self, text, most):
        """Ask all plans of few ticks; return the lengths of the longest run and gap among them."""
        longest = [0, 0]
        for line, ticks in second_way.answers(text, second_way.names_of(text), most).items():
            for place, stretches in enumerate((second_way.runs_of(ticks, len(line)), second_way.gaps_of(ticks, len(line)))):
                longest[place] = max([longest[place]] + [len(stretch) for stretch in stretches])
        for told, seen in ((longest_run(Sieve(text)), longest[0]), (longest_gap(Sieve(text)), longest[1])):
            self.assertTrue(told is None or told >= seen, (text, told, seen))
            # What has no end is not seen to end either.
            self.assertFalse(told == 0 and seen, (text, told, seen))
        return longest


class ErrorsTest(Case):
    def test_what_is_no_sieve(self):
        for given in ODD + STRINGS + INTEGERS + ("(not A)", nested(15), Sieve, [Sieve("A")]):
            for deed in (longest_run, longest_gap):
                self.check_raises(NotASieve, WrongValue, given, deed, given)
                self.check_raises(NotASieve, WrongValue, given, deed, sieve=given)

    def test_sieves_that_are_too_great(self):
        for text in TOO_GREAT:
            for deed in (longest_run, longest_gap):
                self.check_too_many(deed, Sieve(text))
                self.check_too_many(deed, sieve=Sieve(text))

    def test_sieves_with_just_as_many_stands_as_may_be(self):
        sieve = Sieve("(and A (move -6 (ended A B)))")
        self.assertEqual([longest_run(sieve), longest_gap(sieve)], [None, None])
        sieve = Sieve("(and none (and A (move -6 (ended A B))))")
        self.assertEqual([longest_run(sieve), longest_gap(sieve)], [0, 0])

    def test_nothing_is_changed(self):
        sieve = Sieve("(long 4 (or A B))")
        before = dict(vars(sieve))
        for _ in range(2):
            self.assertEqual([longest_run(sieve), longest_gap(sieve)], [4, None])
        self.assertEqual(vars(sieve), before)


if __name__ == "__main__":
    unittest.main()
