"""Point 2: what the parts of the package tell of the same sieves goes together."""

import random
import unittest

import second_way
from spansieve.errors import TooMany
from spansieve.judging import alike, first_beyond, first_parting, within
from spansieve.lengths import longest_gap, longest_run
from spansieve.looking import ahead, back, unsure
from spansieve.machines import machine
from spansieve.plans import Plan
from spansieve.players import Player
from spansieve.shorter import idle, shorter
from spansieve.sieves import Sieve

TURNED = {"first": "last", "last": "first", "begun": "ended", "ended": "begun"}


def sieves(seed, many, names="ABC", parts=6):
    """Return some sieves that are not too great."""
    chance = random.Random(seed)
    found = []
    while len(found) < many:
        sieve = Sieve(second_way.made_up(chance, names[:chance.randint(1, len(names))], chance.randint(1, parts)))
        try:
            machine(sieve)
        except TooMany:
            continue
        found.append(sieve)
    return found


def turned(sieve):
    """Return the sieve that does the same with all lines turned about in time."""
    def turn(tree):
        if isinstance(tree, str):
            return tree
        word, *rest = tree
        numbers = [str(part) for part in rest if isinstance(part, int)]
        if word == "move":
            numbers = [str(-int(numbers[0]))]
        operands = [turn(part) for part in rest if not isinstance(part, int)]
        return "(" + " ".join([TURNED.get(word, word)] + numbers[::-1] + operands) + ")"
    return Sieve(turn(second_way.tree_of(sieve.text)))


def turned_plan(plan):
    return Plan(plan.size, tuple((name, tuple(plan.size - 1 - tick for tick in ticks[::-1])) for name, ticks in plan.rows))


def renamed(sieve, table):
    return Sieve(sieve.text.translate(table))


def made_up_plan(chance, size):
    return second_way.plan_of("ABC", [[chance.random() < 0.6 for _ in "ABC"] for _ in range(size)])


class TurnedTest(unittest.TestCase):
    def test_sieves_turned_about_in_time(self):
        chance = random.Random(1)
        some = 0
        for sieve in sieves(31, 150):
            if "held" in sieve.text or "grid" in sieve.text:
                continue
            some += 1
            other = turned(sieve)
            self.assertEqual(turned(other), sieve)
            plan = made_up_plan(chance, chance.randint(0, 40))
            self.assertEqual(sieve.show(plan), other.show(turned_plan(plan))[::-1])
            try:
                told = longest_run(other), longest_gap(other), idle(other), shorter(other)
            except TooMany:
                continue
            self.assertEqual(told[:3], (longest_run(sieve), longest_gap(sieve), idle(sieve)))
            self.assertEqual(told[3], tuple(turned(short) for short in shorter(sieve)))
            if first_parting(sieve, other) is not None:
                self.assertEqual(first_parting(sieve, other)[0].size, first_parting(other, sieve)[0].size)
        self.assertGreater(some, 60)


class RenamedTest(unittest.TestCase):
    def test_sieves_with_other_names(self):
        for table in (str.maketrans("ABC", "XYZ"), str.maketrans("ABC", "BKQ")):
            for sieve in sieves(32, 40, parts=5):
                other = renamed(sieve, table)
                made, others = machine(sieve), machine(other)
                self.assertEqual((others.names, others.moves, others.good),
                                 (tuple(name.translate(table) for name in made.names), made.moves, made.good))
                for deed in (ahead, back, longest_run, longest_gap):
                    self.assertEqual(deed(sieve), deed(other))
                self.assertEqual(idle(other), tuple(name.translate(table) for name in idle(sieve)))
                self.assertEqual(shorter(other), tuple(renamed(short, table) for short in shorter(sieve)))

    def test_names_in_another_order(self):
        table = str.maketrans("ABC", "CAB")
        for sieve in sieves(33, 40, parts=5):
            other = renamed(sieve, table)
            self.assertEqual(machine(sieve).many, machine(other).many)
            self.assertEqual([deed(sieve) for deed in (ahead, back, longest_run, longest_gap)],
                             [deed(other) for deed in (ahead, back, longest_run, longest_gap)])
            self.assertEqual(idle(other), tuple(sorted(name.translate(table) for name in idle(sieve))))
            self.assertEqual(shorter(other), tuple(renamed(short, table) for short in shorter(sieve)))


class TogetherTest(unittest.TestCase):
    def test_shorter_sieves_are_alike(self):
        for sieve in sieves(34, 80):
            for short in shorter(sieve):
                self.assertTrue(alike(sieve, short) and within(sieve, short) and within(short, sieve))
                self.assertIsNone(first_parting(short, sieve))
                self.assertEqual([deed(sieve) for deed in (ahead, back, longest_run, longest_gap)],
                                 [deed(short) for deed in (ahead, back, longest_run, longest_gap)])
                self.assertLessEqual(set(sieve.names) - set(short.names), set(idle(sieve)))
                self.assertEqual(set(idle(sieve)) & set(short.names), set(idle(short)))

    def test_lengths_and_judging(self):
        for sieve in sieves(35, 100):
            run, gap = longest_run(sieve), longest_gap(sieve)
            self.assertEqual(run == 0, within(sieve, Sieve("none")))
            if run == 0:
                self.assertEqual(gap, 0)
            for number in range(7):
                # Without the runs of more ticks nothing is lost just if no run has more.
                long = Sieve(f"(long {number} {sieve.text})")
                fill = Sieve(f"(fill {number} {sieve.text})")
                if len(sieve.parts) < 12:
                    self.assertEqual(run is not None and run <= number, alike(long, sieve), (sieve.text, number))
                    self.check_gap(sieve, fill, gap, number)

    def check_gap(self, sieve, filled, gap, number):
        """Ask whether what is left open in an answer without its shorter gaps fits to the longest gap."""
        if gap is not None and gap <= number:
            self.assertEqual(longest_gap(filled), 0, (sieve.text, number))
        else:
            self.assertEqual(longest_gap(filled), gap, (sieve.text, number))

    def test_looking_and_players(self):
        chance = random.Random(2)
        for sieve in sieves(36, 80):
            most = ahead(sieve)
            plan = made_up_plan(chance, 30)
            player = Player(sieve)
            found = {}
            for tick in range(30):
                pairs = player.tell(tuple(name for name in sieve.names if tick in plan.ticks(name)))
                found.update(pairs)
                if most is not None:
                    self.assertTrue(all(tick - at < most for at in player.unsure), sieve.text)
            found.update(player.end())
            self.assertEqual(tuple(tick for tick in range(30) if found[tick]), sieve.run(plan))
            if most != 0:
                self.check_waiting(sieve, 0 if most is None else most - 1)

    def check_waiting(self, sieve, number):
        """Play the plans that show that a number is not enough: the answer is not sure so many ticks later."""
        first, _, tick = unsure(sieve, number)
        player = Player(sieve)
        for at in range(tick + number + 1):
            player.tell(tuple(name for name in sieve.names if at in first.ticks(name)))
        self.assertIn(tick, player.unsure)

    def test_machines_and_all_others(self):
        chance = random.Random(3)
        for sieve in sieves(37, 80):
            made = machine(sieve)
            for size in (0, 1, 7, 60):
                plan = made_up_plan(chance, size)
                answer = sieve.run(plan)
                self.assertTrue(made.accepts(plan, answer))
                run = max([len(stretch) for stretch in second_way.runs_of(set(answer), size)], default=0)
                gap = max([len(stretch) for stretch in second_way.gaps_of(set(answer), size)], default=0)
                self.assertTrue(longest_run(sieve) is None or run <= longest_run(sieve))
                self.assertTrue(longest_gap(sieve) is None or gap <= longest_gap(sieve))
                flipped = {name: tuple(sorted(set(range(size)) - set(plan.ticks(name)))) if name in idle(sieve)
                           else plan.ticks(name) for name in plan.names}
                self.assertEqual(sieve.run(Plan(size, tuple(flipped.items()))), answer)

    def test_long_lines(self):
        chance = random.Random(4)
        plan = made_up_plan(chance, 10000)
        for sieve in sieves(38, 12):
            answer = sieve.run(plan)
            self.assertTrue(machine(sieve).accepts(plan, answer))
            self.assertFalse(machine(sieve).accepts(plan, tuple(sorted(set(answer) ^ {chance.randrange(10000)}))))
            player = Player(sieve)
            found = {}
            marks = {name: plan.marks(name) for name in sieve.names}
            for tick in range(10000):
                found.update(player.tell(tuple(name for name in sieve.names if marks[name][tick] == "#")))
            found.update(player.end())
            self.assertEqual(tuple(tick for tick in range(10000) if found[tick]), answer)

    def test_first_plans_beyond_are_not_ahead_of_first_plans_that_part(self):
        chance = random.Random(5)
        some = sieves(39, 60, parts=4)
        for one in some:
            other = chance.choice(some)
            parting, beyond, behind = first_parting(one, other), first_beyond(one, other), first_beyond(other, one)
            self.assertEqual(parting is None, beyond is None and behind is None)
            sizes = [found[0].size for found in (beyond, behind) if found is not None]
            if parting is not None:
                self.assertEqual(parting[0].size, min(sizes))


if __name__ == "__main__":
    unittest.main()
