"""Diagrams, and the likeness of sieves that is told by them."""

import itertools
import random
import unittest

import second_way
from spansieve.diagrams import Diagrams
from spansieve.errors import TooMany
from spansieve.judging import alike
from spansieve.likeness import have_same_answers
from spansieve.samples import sample
from spansieve.sieves import Sieve
from spansieve.texts import read_steps

MANY = 5
ROWS = list(itertools.product((0, 1), repeat=MANY))


class DiagramsTest(unittest.TestCase):
    def setUp(self):
        self.diagrams = Diagrams()
        self.chance = random.Random(7)

    def made(self, deep):
        """Return a diagram and its table: the truth for each row of truths at the places 0 to 4."""
        if not deep:
            place = self.chance.randrange(MANY)
            return self.diagrams.node(place, 0, 1), [row[place] for row in ROWS]
        (one, ones), (two, twos), (three, threes) = [self.made(deep - 1) for _ in range(3)]
        return self.chance.choice((
            lambda: (self.diagrams.choice(one, two, three), [b if a else c for a, b, c in zip(ones, twos, threes)]),
            lambda: (self.diagrams.both(one, two), [a & b for a, b in zip(ones, twos)]),
            lambda: (self.diagrams.either(one, two), [a | b for a, b in zip(ones, twos)]),
            lambda: (self.diagrams.differ(one, two), [a ^ b for a, b in zip(ones, twos)])))()

    def told(self, diagram, row):
        """Return what a diagram tells for a row of truths."""
        known = {}
        others = dict(enumerate(row))
        return self.diagrams.replaced(diagram, others, known)

    def test_each_diagram_has_one_number(self):
        numbers = {}
        for _ in range(300):
            diagram, table = self.made(self.chance.randint(0, 3))
            self.assertEqual([self.told(diagram, row) for row in ROWS], table)
            self.assertEqual(numbers.setdefault(tuple(table), diagram), diagram)
        self.assertEqual(len(numbers), len(set(numbers.values())))

    def test_truths_that_are_chosen_well(self):
        for _ in range(60):
            diagram, table = self.made(3)
            told = dict(zip(ROWS, table))
            places = self.chance.sample(range(MANY), 2)
            found = self.diagrams.exists(diagram, dict.fromkeys(places, True), {})
            self.assertFalse(set(self.diagrams.places(found)) & set(places))
            for row in ROWS:
                others = [other for other in ROWS
                          if all(other[place] == row[place] for place in range(MANY) if place not in places)]
                self.assertEqual(self.told(found, row), max(told[other] for other in others))

    def test_diagrams_in_the_place_of_truths(self):
        for _ in range(60):
            diagram, table = self.made(3)
            (one, ones), (two, twos) = self.made(2), self.made(2)
            found = self.diagrams.replaced(diagram, {1: one, 3: two}, {})
            told = dict(zip(ROWS, table))
            for row, first, second in zip(ROWS, ones, twos):
                self.assertEqual(self.told(found, row), told[row[0], first, row[2], second, row[4]])

    def test_places(self):
        for _ in range(60):
            diagram, table = self.made(2)
            told = dict(zip(ROWS, table))
            asked = [place for place in range(MANY)
                     if any(told[row] != told[row[:place] + (1 - row[place],) + row[place + 1:]] for row in ROWS)]
            self.assertEqual(self.diagrams.places(diagram), asked)


class LikenessTest(unittest.TestCase):
    def check(self, one, other, expected):
        with self.subTest(one, other=other):
            self.assertIs(have_same_answers(read_steps(one), read_steps(other)), expected)
            self.assertIs(have_same_answers(read_steps(other), read_steps(one)), expected)

    def test_against_machines(self):
        chance = random.Random(5)
        found = []
        while len(found) < 300:
            names = "AB"[:chance.randint(1, 2)]
            text = second_way.made_up(chance, names, chance.randint(1, 5))
            part = chance.choice(Sieve(text).parts)
            other = text.replace(part.text, chance.choice(part.parts).text if chance.random() < 0.7 else "none", 1)
            try:
                found.append(alike(Sieve(text), Sieve(other)))
            except TooMany:
                continue
            self.check(text, other, found[-1])
        self.assertTrue(60 < sum(found) < 240, sum(found))

    def test_sieves_of_any_size(self):
        self.check("(move 6 (move 6 (move 6 A)))", "(move 6 (move 6 (move 6 (not (not A)))))", True)
        self.check("(move 6 (move 6 (move 6 A)))", "(move 6 (move 6 (move 5 (move 1 A))))", True)
        self.check("(move 6 (move 6 (move 6 A)))", "(move 6 (move 6 (move 5 A)))", False)
        self.check("(move -6 (move -6 (move -6 A)))", "(move -6 (move -5 (move -6 (move -1 A))))", True)
        self.check("(move -6 (move -6 (move -6 A)))", "(move -6 (move -6 (move -6 (and A (move 1 all)))))", True)
        self.check("(move -6 (move -6 (move -6 A)))", "(move -6 (move -6 (move -6 (and A (move -1 all)))))", False)
        self.check("(move 6 (move 6 (and A (move -6 all))))", "(move 6 (move 6 A))", True)
        self.check("(less (move 6 (move 6 A)) (move 6 (move 5 (move 1 A))))", "none", True)
        self.check("(move 6 (move 6 (move 6 (and A B))))", "(and (move 6 (move 6 (move 6 B))) (move 6 (move 6 (move 6 A))))",
                   True)

    def test_samples(self):
        for number in range(120):
            for names in ("", "A", "QZ", "ABC"):
                plan = sample(tuple(names), number)
                self.assertEqual((plan.names, plan), (tuple(names), sample(tuple(names), number)))


if __name__ == "__main__":
    unittest.main()
