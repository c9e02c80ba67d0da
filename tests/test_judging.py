"""Points 2, 9 and 12 and the interface of spansieve/judging.py."""

import random
import unittest

import second_way
from spansieve.errors import NotASieve, TooMany, WrongMoment, WrongValue
from spansieve.judging import alike, first_beyond, first_parting, within
from spansieve.plans import Plan
from spansieve.sieves import Sieve
from values import INTEGERS, ODD, STRINGS, Case, nested

DEEDS = (alike, first_parting, within, first_beyond)

ALIKE = (
    ("A", "A"), ("none", "(not all)"), ("none", "(less A A)"), ("all", "(or A (not A))"), ("(less A (less A B))", "(and A B)"),
    ("(pad 1 0 (pad 0 2 A))", "(pad 1 2 A)"), ("(and A (or A B))", "A"), ("(meeting A A)", "A"), ("(fill 0 A)", "A"),
    ("(fill 3 (fill 2 A))", "(fill 3 A)"), ("(short 1 A)", "A"), ("(long 0 A)", "none"), ("(short 3 (long 2 A))", "none"),
    ("(move -2 (move -1 A))", "(move -3 A)"), ("(first 2 A)", "(less A (and (move 1 A) (move 2 A)))"),
    ("(not (trim 1 1 (not (or A B))))", "(not (trim 1 1 (and (not A) (not B))))"), ("(held A A)", "(held A none)"),
    ("(grid 2 (grid 4 A))", "(grid 4 A)"), ("(grid 6 (grid 3 A))", "(grid 6 A)"), ("(inside A B)", "(less A (meeting A (not B)))"),
    ("(meeting A (or B C))", "(or (meeting A B) (meeting A C))"), ("(begun A (first 1 A))", "A"), ("(ended A (last 1 A))", "A"),
    ("(trim 1 0 A)", "(and A (move 1 A))"), ("(trim 0 2 A)", "(less A (last 2 A))"), ("(and D (less E E))", "(less A A)"),
)

# Two sieves that are not alike, the first plan for which they are not, and the first tick there, by hand.
PARTED = (
    ("none", "all", "1", 0),
    ("A", "none", "1\nA #", 0),
    ("A", "B", "1\nA .\nB #", 0),
    ("B", "A", "1\nA .\nB #", 0),
    ("A", "(not A)", "1\nA .", 0),
    ("(and A B)", "(or A B)", "1\nA .\nB #", 0),
    ("(and B A)", "B", "1\nA .\nB #", 0),
    ("(and A B)", "A", "1\nA #\nB .", 0),
    ("C", "(or B C)", "1\nB #\nC .", 0),
    ("(and A B)", "(and C D)", "1\nA .\nB .\nC #\nD #", 0),
    ("A", "(move 1 A)", "1\nA #", 0),
    ("A", "(move -1 A)", "1\nA #", 0),
    ("(move 1 A)", "none", "2\nA #.", 1),
    ("(move -1 A)", "none", "2\nA .#", 0),
    ("(move 1 A)", "(move -1 A)", "2\nA .#", 0),
    ("(fill 1 (short 2 A))", "(short 2 (fill 1 A))", "3\nA #.#", 0),
    ("(fill 1 A)", "A", "3\nA #.#", 1),
    ("(fill 3 A)", "(fill 2 A)", "5\nA #...#", 1),
    ("(short 3 A)", "(short 2 A)", "2\nA ##", 0),
    ("(long 2 A)", "A", "3\nA ###", 0),
    ("(first 2 A)", "A", "3\nA ###", 2),
    ("(last 2 A)", "A", "3\nA ###", 0),
    ("(first 2 A)", "(last 2 A)", "3\nA ###", 0),
    ("(held A B)", "A", "2\nA #.\nB ..", 1),
    ("(held A B)", "(held A none)", "2\nA #.\nB .#", 1),
    ("(meeting A B)", "(and A B)", "2\nA ##\nB .#", 0),
    ("(begun A B)", "(ended A B)", "2\nA ##\nB .#", 0),
    ("(inside A B)", "(begun A B)", "2\nA ##\nB #.", 0),
    ("(meeting A B)", "(begun A B)", "2\nA ##\nB .#", 0),
    ("(grid 2 A)", "(pad 1 1 A)", "3\nA ..#", 1),
    ("(grid 4 A)", "(grid 2 A)", "3\nA ..#", 0),
    ("(short 3 all)", "all", "1", 0),
    ("(short 3 all)", "none", "3", 0),
    ("(not (short 6 (not A)))", "all", "6\nA ......", 0),
)

# The first sieve has a tick that the other one has not: the first plan and the first such tick.
BEYOND = (
    ("A", "B", "1\nA #\nB .", 0),
    ("B", "A", "1\nA .\nB #", 0),
    ("(or A B)", "A", "1\nA .\nB #", 0),
    ("(or A B)", "B", "1\nA #\nB .", 0),
    ("all", "A", "1\nA .", 0),
    ("(fill 1 A)", "A", "3\nA #.#", 1),
    ("(pad 1 1 A)", "A", "2\nA .#", 0),
    ("(pad 1 0 A)", "(pad 0 1 A)", "2\nA .#", 0),
    ("(pad 0 1 A)", "(pad 1 0 A)", "2\nA #.", 1),
    ("(move 1 A)", "A", "2\nA #.", 1),
    ("(first 2 A)", "(last 2 A)", "3\nA ###", 0),
    ("(last 2 A)", "(first 2 A)", "3\nA ###", 2),
    ("(fill 6 A)", "(fill 5 A)", "8\nA #......#", 1),
    ("(not (fill 1 A))", "(not A)", None, None),
    ("A", "(or A B)", None, None),
    ("(and A B)", "B", None, None),
    ("none", "A", None, None),
    ("A", "all", None, None),
    ("(short 2 A)", "A", None, None),
    ("A", "(grid 6 A)", None, None),
    ("(trim 1 1 A)", "(trim 1 0 A)", None, None),
    ("(inside A B)", "(meeting A B)", None, None),
    ("(begun A B)", "(meeting A B)", None, None),
    ("(held A B)", "(held A none)", None, None),
    ("(move -6 (and A B))", "(move -6 (or B C))", None, None),
)

TOO_GREAT = ("(move 6 (move 4 A))", "(and none (move 6 (move 4 A)))",
             "(held (long 2 C) (grid 5 (begun (move -5 B) (pad 0 1 C))))")


class JudgingCase(Case):
    def check_parting(self, one, other, expected):
        one, other = Sieve(one), Sieve(other)
        with self.subTest(one=one.text, other=other.text):
            self.assertEqual(first_parting(one, other), expected)
            self.assertEqual(first_parting(other=other, one=one), expected)
            self.assertEqual(first_parting(other, one), expected)
            self.assertIs(alike(one, other), expected is None)
            self.assertIs(alike(other=one, one=other), expected is None)
            self.check_kinds(first_parting(one, other))

    def check_beyond(self, one, other, expected):
        one, other = Sieve(one), Sieve(other)
        with self.subTest(one=one.text, other=other.text):
            self.assertEqual(first_beyond(one, other), expected)
            self.assertEqual(first_beyond(other=other, one=one), expected)
            self.assertIs(within(one, other), expected is None)
            self.assertIs(within(other=other, one=one), expected is None)
            self.check_kinds(first_beyond(one, other))

    def check_kinds(self, told):
        if told is not None:
            self.assertEqual(tuple(map(type, told)), (Plan, int))
            self.assertIs(type(told), tuple)


class AlikeTest(JudgingCase):
    def test_examples_of_the_document(self):
        plan, tick = first_parting(Sieve("(fill 1 (short 2 A))"), Sieve("(short 2 (fill 1 A))"))
        self.assertEqual((plan.text, tick), ("3\nA #.#", 0))
        self.assertIs(within(Sieve("(short 2 A)"), Sieve("A")), True)
        self.assertEqual(first_beyond(Sieve("(fill 1 A)"), Sieve("A"))[0].text, "3\nA #.#")

    def test_alike_in_other_words(self):
        for one, other in ALIKE:
            self.check_parting(one, other, None)
            self.check_beyond(one, other, None)
            self.check_beyond(other, one, None)

    def test_pairs_that_part(self):
        for one, other, text, tick in PARTED:
            self.check_parting(one, other, (Plan.read(text), tick))
            self.assertEqual(second_way.first_parting(one, other, min(6, Plan.read(text).size)), (Plan.read(text), tick))

    def test_pairs_that_are_within_and_beyond(self):
        for one, other, text, tick in BEYOND:
            self.check_beyond(one, other, None if text is None else (Plan.read(text), tick))

    def test_names_of_both(self):
        plan, tick = first_parting(Sieve("(and A (and B C))"), Sieve("(and D (and E F))"))
        self.assertEqual((plan.names, plan.size, tick), (tuple("ABCDEF"), 1, 0))
        self.assertEqual(plan.rows, (("A", ()), ("B", ()), ("C", ()), ("D", (0,)), ("E", (0,)), ("F", (0,))))
        plan, tick = first_beyond(Sieve("(and A (and B C))"), Sieve("(or D (or E F))"))
        self.assertEqual(plan.rows, (("A", (0,)), ("B", (0,)), ("C", (0,)), ("D", ()), ("E", ()), ("F", ())))
        self.assertEqual(first_parting(Sieve("Z"), Sieve("(less Z Y)"))[0].text, "1\nY #\nZ #")

    def test_against_all_plans_of_few_ticks(self):
        chance = random.Random(9)
        for _ in range(150):
            names = "ABC"[:chance.randint(1, 3)]
            most = {1: 7, 2: 4, 3: 3}[len(names)]
            one, other = [second_way.made_up(chance, names, chance.randint(1, 6)) for _ in range(2)]
            parting, beyond = first_parting(Sieve(one), Sieve(other)), first_beyond(Sieve(one), Sieve(other))
            slow_parting, slow_beyond = second_way.first_parting(one, other, most), second_way.first_beyond(one, other, most)
            self.check_against(one, other, most, parting, slow_parting, lambda ticks, others: ticks ^ others)
            self.check_against(one, other, most, beyond, slow_beyond, lambda ticks, others: ticks - others)
            self.assertIs(alike(Sieve(one), Sieve(other)), parting is None)
            self.assertIs(within(Sieve(one), Sieve(other)), beyond is None)

    def check_against(self, one, other, most, told, slow, between):
        with self.subTest(one=one, other=other):
            if slow is not None or told is None or told[0].size <= most:
                self.assertEqual(told, slow)
            else:
                # No plan of few ticks shows it, so the plan that is told shows it itself.
                plan, tick = told
                ticks, others = [set(second_way.answer(text, plan)) for text in (one, other)]
                self.assertEqual(min(between(ticks, others)), tick)


class FarOnTest(JudgingCase):
    def test_plans_that_part_only_far_on(self):
        for many in range(1, 6):
            text = "(trim 6 6 " * many + "A" + ")" * many
            size = 12 * many + 1
            plan = Plan(size, (("A", tuple(range(size))),))
            self.check_parting(text, "none", (plan, 6 * many))
            self.check_beyond(text, "none", (plan, 6 * many))
            self.check_beyond("none", text, None)

    def test_one_tick_less_in_widening_and_in_moving(self):
        one = "(pad 6 0 (pad 6 0 (pad 6 0 (pad 6 0 A))))"
        self.check_parting(one, "(pad 6 0 (pad 6 0 (pad 6 0 (pad 5 0 A))))", (Plan(25, (("A", (24,)),)), 0))
        self.check_parting(one, "(pad 1 0 (pad 5 0 (pad 6 0 (pad 6 0 (pad 6 0 A)))))", None)
        self.check_parting("(fill 6 (grid 6 A))", "(fill 5 (grid 6 A))", (Plan(13, (("A", (5, 12)),)), 6))

    def test_blocks(self):
        self.check_parting("(grid 5 (grid 4 A))", "(grid 4 (grid 5 A))", second_way.first_parting(
            "(grid 5 (grid 4 A))", "(grid 4 (grid 5 A))", 7))
        self.check_beyond("(grid 6 (grid 4 A))", "(grid 4 (grid 6 A))", second_way.first_beyond(
            "(grid 6 (grid 4 A))", "(grid 4 (grid 6 A))", 9))

    def test_great_machines(self):
        one = "(and (pad 3 3 A) (and (pad 3 3 B) (pad 3 3 C)))"
        self.check_parting(one, "(and (pad 3 3 C) (and (pad 3 3 B) (pad 3 3 A)))", None)
        self.check_beyond(one, "(pad 3 3 (pad 1 1 B))", None)
        told = (Plan(10, (("A", ()), ("B", (0,)), ("C", (0,)))), 9)
        self.assertEqual(first_parting(Sieve("(move 6 (move 3 (and A B)))"), Sieve("(move 6 (move 3 (and B C)))")), told)


class ErrorsTest(JudgingCase):
    def test_what_is_no_sieve(self):
        sieve, great = Sieve("A"), Sieve(TOO_GREAT[0])
        for given in ODD + STRINGS + INTEGERS + ("(not A)", nested(15), Sieve, [sieve], (sieve,)):
            for deed in DEEDS:
                for other in (sieve, great, None, 7):
                    self.check_raises(NotASieve, WrongValue, given, deed, given, other)
                    self.check_raises(NotASieve, WrongValue, given, deed, other=other, one=given)
                for one in (sieve, great):
                    self.check_raises(NotASieve, WrongValue, given, deed, one, given)
                    self.check_raises(NotASieve, WrongValue, given, deed, other=given, one=one)

    def test_sieves_that_are_too_great(self):
        for text in TOO_GREAT:
            for pair in ((text, "A"), ("A", text), (text, text), (text, "none")):
                for deed in DEEDS:
                    with self.assertRaises(TooMany) as held:
                        deed(*map(Sieve, pair))
                    self.assertIs(type(held.exception), TooMany)
                    self.assertIsInstance(held.exception, WrongMoment)
                    self.assertEqual(held.exception.limit, 1000)

    def test_nothing_is_changed(self):
        one, other = Sieve("(fill 1 (short 2 A))"), Sieve("(short 2 (fill 1 A))")
        before = (dict(vars(one)), dict(vars(other)))
        for deed in DEEDS:
            self.assertEqual(deed(one, other), deed(one, other))
        self.assertEqual((vars(one), vars(other)), before)


if __name__ == "__main__":
    unittest.main()
