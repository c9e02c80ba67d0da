"""Points 2, 3, 8, 9 and 10 and the interface of spansieve/shorter.py."""

import random
import unittest

import second_way
from spansieve.errors import NotASieve, TooMany, WrongValue
from spansieve.judging import alike
from spansieve.machines import machine
from spansieve.shorter import idle, shorter
from spansieve.sieves import Sieve
from values import INTEGERS, ODD, STRINGS, TOO_GREAT, Case, nested

# Worked out by hand: a sieve, the shorter ones, and its names that do not matter.
BY_HAND = {
    "A": ([], ""),
    "none": ([], ""),
    "all": ([], ""),
    "(fill 2 A)": ([], ""),
    "(not A)": ([], ""),
    "(not none)": (["all"], ""),
    "(not all)": (["none"], ""),
    "(not (not A))": ([], ""),
    "(not (not none))": (["none", "(not all)"], ""),
    "(meeting A A)": (["A"], ""),
    "(and A B)": ([], ""),
    "(and A A)": (["A"], ""),
    "(and none B)": (["none"], "B"),
    "(or A all)": (["all"], "A"),
    "(or none none)": (["none"], ""),
    "(less A A)": (["none"], "A"),
    "(less none A)": (["none"], "A"),
    "(move 0 X)": (["X"], ""),
    "(long 0 K)": (["none"], "K"),
    "(and A (or A B))": (["A", "(and A A)", "(and A all)"], "B"),
    "(and Q (or M Q))": (["Q", "(and Q Q)", "(and Q all)"], "M"),
    "(less A (less A B))": ([], ""),
    "(or A (and A B))": (["A", "(or A A)", "(or A none)"], "B"),
    "(fill 2 (fill 1 A))": (["(fill 2 A)"], ""),
    "(held A (not A))": (["A", "(held A all)"], ""),
    "(held A (and A B))": (["(held A A)", "(held A none)"], "B"),
    "(or (not A) (not (not A)))": (["all", "(or all (not (not A)))", "(or (not A) all)", "(or (not A) (not none))"], "A"),
    # Moved off the line: what is moved back is not what it was.
    "(move 1 (move -1 A))": ([], ""),
    "(and A (move 1 (move -1 A)))": (["(move 1 (move -1 A))", "(and A (move 1 all))"], ""),
    "(first 0 (and A B))": (["none", "(first 0 A)", "(first 0 B)", "(first 0 none)", "(first 0 all)"], "AB"),
    "(less (and A B) (or C B))": (["none", "(less B (or C B))", "(less none (or C B))", "(less (and A B) B)",
                                   "(less (and A B) all)"], "ABC"),
}

# Sieves of which something tried is too great, with what is alike to them of that.
TRIES_GREAT = {
    "(and none (move 6 (first 0 (move 4 A))))": [
        "none", "(move 6 (first 0 (move 4 A)))", "(and none (first 0 (move 4 A)))", "(and none none)", "(and none all)", "(and none (move 6 (move 4 A)))",
        "(and none (move 6 none))", "(and none (move 6 all))", "(and none (move 6 (first 0 A)))",
        "(and none (move 6 (first 0 none)))", "(and none (move 6 (first 0 all)))"],
    "(move 6 (first 1 (move 4 A)))": [],
    "(move -6 (and none (move -6 A)))": [
        "(and none (move -6 A))", "none", "(move -6 none)", "(move -6 (and none A))", "(move -6 (and none none))",
        "(move -6 (and none all))"],
    "(move 3 (move 6 (long 0 (move 6 A))))": [
        "(move 6 (long 0 (move 6 A)))", "none", "(move 3 (long 0 (move 6 A)))", "(move 3 none)", "(move 3 (move 6 none))",
        "(move 3 (move 6 (long 0 A)))", "(move 3 (move 6 (long 0 none)))", "(move 3 (move 6 (long 0 all)))"],
    # Just 1001 stands, in the place of a part.
    "(less none (held (long 2 C) (grid 5 (begun (move -5 B) (pad 0 1 (long 0 C))))))": None,
    # The runs that the one drops, the other one would drop behind it.
    "(fill 5 (short 6 (first 6 (move -5 (short 3 (move -5 B))))))": [
        "(fill 5 (short 6 (first 6 (move -5 (move -5 B)))))"],
}


def tries(text):
    """Return the texts that come about by one replacement, each once, worked out on the tree of a text."""
    found = []

    def show(tree):
        return tree if isinstance(tree, str) else "(" + " ".join(
            str(part) if isinstance(part, int) else show(part) for part in tree) + ")"

    def walk(tree, rebuilt):
        if isinstance(tree, str):
            return
        operands = [at for at in range(1, len(tree)) if not isinstance(tree[at], int)]
        for other in [tree[at] for at in operands] + ["none", "all"]:
            found.append(show(rebuilt(other)))
        for at in operands:
            walk(tree[at], lambda part, at=at: rebuilt(tree[:at] + [part] + tree[at + 1:]))

    walk(second_way.tree_of(text), lambda tree: tree)
    return list(dict.fromkeys(found))


def texts(sieves):
    return [sieve.text for sieve in sieves]


class ShorterTest(Case):
    def test_examples_of_the_document(self):
        sieve = Sieve("(and A (or A B))")
        self.assertEqual([list(map(str, shorter(sieve))), idle(sieve), shorter(Sieve("(fill 2 A)"))],
                         [["A", "(and A A)", "(and A all)"], ("B",), ()])
        self.assertEqual(list(map(str, shorter(Sieve("(meeting A A)")))), ["A"])

    def test_sieves_worked_out_by_hand(self):
        for text, (expected, names) in BY_HAND.items():
            with self.subTest(text):
                found = shorter(sieve=Sieve(text))
                self.assertIs(type(found), tuple)
                self.assertTrue(all(type(sieve) is Sieve for sieve in found))
                self.assertEqual(texts(found), expected)
                self.assertEqual(found, shorter(Sieve(text)))
                self.assertEqual(idle(sieve=Sieve(text)), tuple(names))

    def test_all_that_come_about_and_are_alike_in_their_order(self):
        chance = random.Random(21)
        found = 0
        for _ in range(120):
            text = second_way.made_up(chance, "ABC"[:chance.randint(1, 3)], chance.randint(2, 6))
            alike_ones = [other for other in tries(text) if alike(Sieve(text), Sieve(other))]
            self.assertEqual(texts(shorter(Sieve(text))), alike_ones, text)
            found += len(alike_ones)
        self.assertGreater(found, 100)

    def test_against_all_plans_of_few_ticks(self):
        chance = random.Random(22)
        for _ in range(40):
            text = second_way.made_up(chance, "AB"[:chance.randint(1, 2)], chance.randint(2, 5))
            told = texts(shorter(Sieve(text)))
            own = second_way.names_of(text)
            most = {0: 6, 1: 6, 2: 4}[len(own)]
            answers = second_way.answers(text, own, most)
            for other in tries(text):
                same = second_way.answers(other, own, most) == answers
                self.assertFalse(other in told and not same, (text, other))
                if same and other not in told:
                    # Few ticks do not show it: there is a plan with more.
                    self.assertFalse(alike(Sieve(text), Sieve(other)))

    def test_each_replacement_of_great_sieves(self):
        # Twelve parts, three names, and seven deep.
        for text in ("(and A (or A (and B (or B (not (and C A))))))", "(or (and A (and B C)) (or (and B A) (not C)))",
                     "(not (not (not (not (not (not A))))))"):
            alike_ones = [other for other in tries(text) if alike(Sieve(text), Sieve(other))]
            self.assertEqual(texts(shorter(Sieve(text))), alike_ones)

    def test_what_is_tried_may_have_any_number_of_stands(self):
        for text, expected in TRIES_GREAT.items():
            with self.subTest(text):
                great = [other for other in tries(text) if self.is_too_great(other)]
                self.assertNotEqual(great, [])
                found = texts(shorter(Sieve(text)))
                self.assertEqual(found, [other for other in tries(text) if other in found])
                if expected is not None:
                    self.assertEqual(found, expected)
                for other in tries(text):
                    if other not in great:
                        self.assertIs(other in found, alike(Sieve(text), Sieve(other)), other)
                    # A sieve without runs has none left, whatever is too great in it.
                    elif text.startswith(("(and none", "(less none")):
                        self.assertIn(other, found)

    def is_too_great(self, text):
        try:
            machine(Sieve(text))
        except TooMany:
            return True
        return False

    def test_other_names_in_the_same_order(self):
        for text in BY_HAND:
            table = str.maketrans("ABCQMXK", "EFGUTXW")
            self.assertEqual(texts(shorter(Sieve(text.translate(table)))),
                             [other.translate(table) for other in texts(shorter(Sieve(text)))])


class IdleTest(Case):
    def test_names_that_do_not_matter_one_by_one(self):
        for text, names in (("(and (or A (not A)) (or B C))", "A"), ("(or (less B B) (and A C))", "B"),
                            ("(less (or A (or B C)) (or C B))", ""), ("(meeting all (or C (not C)))", "C"),
                            ("(move 6 (less A A))", "A"), ("(or A B)", ""), ("(held M (less all (move 0 M)))", ""),
                            ("(held Z (and (not Z) (and Y (not Y))))", "Y"), ("(first 0 (or A (or B C)))", "ABC")):
            self.assertEqual(idle(Sieve(text)), tuple(names), text)

    def test_against_all_plans_of_few_ticks(self):
        chance = random.Random(23)
        some = 0
        for _ in range(150):
            text = second_way.made_up(chance, "ABC"[:chance.randint(1, 3)], chance.randint(1, 6))
            names = second_way.names_of(text)
            try:
                told = idle(Sieve(text))
            except TooMany:
                continue
            self.assertEqual((type(told), told), (tuple, tuple(sorted(set(told)))))
            answers = second_way.answers(text, names, {0: 4, 1: 4, 2: 4, 3: 3}[len(names)])
            some += len(told)
            for place, name in enumerate(names):
                ends = {}
                same = all(ends.setdefault(tuple(letter[:place] + letter[place + 1:] for letter in line), ticks) == ticks
                           for line, ticks in answers.items())
                self.assertFalse(name in told and not same, (text, name))
                # What does not matter at all may be anything: nothing at all, too.
                self.assertIs(name in told, alike(Sieve(text), Sieve(text.replace(name, "none"))) and
                              alike(Sieve(text), Sieve(text.replace(name, "Z"))), (text, name))
        self.assertGreater(some, 20)


class ErrorsTest(Case):
    def test_what_is_no_sieve(self):
        for given in ODD + STRINGS + INTEGERS + ("(not A)", nested(15), Sieve, [Sieve("A")]):
            for deed in (shorter, idle):
                self.check_raises(NotASieve, WrongValue, given, deed, given)
                self.check_raises(NotASieve, WrongValue, given, deed, sieve=given)

    def test_sieves_that_are_too_great(self):
        for text in TOO_GREAT:
            for deed in (shorter, idle):
                self.check_too_many(deed, Sieve(text))
                self.check_too_many(deed, sieve=Sieve(text))

    def test_sieves_with_just_as_many_stands_as_may_be(self):
        sieve = Sieve("(and A (move -6 (ended A B)))")
        self.assertEqual([shorter(sieve), idle(sieve)], [(), ()])
        sieve = Sieve("(and none (and A (move -6 (ended A B))))")
        self.assertEqual(texts(shorter(sieve)), [other for other in tries(sieve.text) if other.startswith(("none", "(and none"))])
        self.assertEqual(idle(sieve), ("A", "B"))

    def test_nothing_is_changed(self):
        sieve = Sieve("(and A (or A B))")
        before = dict(vars(sieve))
        for _ in range(2):
            self.assertEqual([len(shorter(sieve)), idle(sieve)], [3, ("B",)])
        self.assertEqual(vars(sieve), before)


if __name__ == "__main__":
    unittest.main()
