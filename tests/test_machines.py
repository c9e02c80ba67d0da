"""Points 2 to 5 and 10 and the interface of spansieve/machines.py."""

import copy
import itertools
import random
import unittest

import second_way
from spansieve.errors import InvalidTicks, NotAPlan, NotASieve, TooMany, UnknownName, WrongMoment, WrongValue
from spansieve.machines import Machine, machine
from spansieve.plans import Plan
from spansieve.sieves import Sieve
from values import INTEGERS, ODD, STRINGS, Case, nested

# Each machine was worked out by hand: its names, its moves and its good stands.
BY_HAND = {
    "A": (("A",), ((0, 1, 1, 0), (1, 1, 1, 1)), (0,)),
    "Q": (("Q",), ((0, 1, 1, 0), (1, 1, 1, 1)), (0,)),
    "none": ((), ((0, 1), (1, 1)), (0,)),
    "all": ((), ((1, 0), (1, 1)), (0,)),
    "(not A)": (("A",), ((1, 0, 0, 1), (1, 1, 1, 1)), (0,)),
    "(less A A)": (("A",), ((0, 1, 0, 1), (1, 1, 1, 1)), (0,)),
    # 2 stands for a line whose last tick was in A.
    "(move 1 A)": (("A",), ((0, 1, 2, 1), (1, 1, 1, 1), (1, 0, 1, 2)), (0, 2)),
    # 1 stands for a line whose next tick must not be in A, 2 for one whose next tick must be there and in A.
    "(move -1 A)": (("A",), ((1, 2, 1, 2), (1, 2, 3, 3), (3, 3, 1, 2), (3, 3, 3, 3)), (0, 1)),
    # 2: a run of one tick was left out; 3: one was begun that must go on; 4: it has two ticks at least.
    "(short 2 A)": (("A",), ((0, 1, 2, 3), (1, 1, 1, 1), (0, 1, 1, 1), (1, 1, 1, 4), (0, 1, 1, 4)), (0, 2, 4)),
    # 1: the second tick of the block must not be in A; 2: it must be there and in A; 4: it may be either.
    "(grid 2 A)": (("A",), ((1, 2, 3, 4), (0, 3, 3, 3), (3, 3, 3, 0), (3, 3, 3, 3), (3, 0, 3, 0)), (0, 1, 4)),
    "(and A B)": (("A", "B"), ((0, 1, 0, 1, 0, 1, 1, 0), (1,) * 8), (0,)),
    "(less B A)": (("A", "B"), ((0, 1, 1, 0, 0, 1, 0, 1), (1,) * 8), (0,)),
    "(held A B)": (("A", "B"), ((0, 1, 0, 1, 1, 2, 1, 2), (1,) * 8, (1, 2, 0, 1, 1, 2, 1, 2)), (0, 2)),
    "(and A (and B C))": (("A", "B", "C"), ((0, 1) * 7 + (1, 0), (1,) * 16), (0,)),
    # The line is so long: no, one, or two and more ticks; 2 must come to three ticks, 6 has come there.
    "(short 3 all)": ((), ((1, 2), (3, 4), (4, 5), (4, 4), (4, 4), (4, 6), (4, 6)), (0, 1, 3, 6)),
}

# A sieve with just so many stands; the numbers were worked out by two programs that share nothing.
THOUSAND = "(and A (move -6 (ended A B)))"
ONE_MORE = "(held (long 2 C) (grid 5 (begun (move -5 B) (pad 0 1 C))))"

# Sieves that are too great, and sieves of which a part alone is.
TOO_GREAT = (ONE_MORE, "(move 6 (move 4 A))", "(move -6 (move -6 A))", "(and (move 6 A) (move -6 (not B)))",
             "(or (move 6 A) (move -6 B))", "(meeting (move 6 A) (move -6 (or B C)))")
IN_PARTS = ("(and none (move 6 (move 4 A)))", "(and (move 6 (move 4 A)) none)", "(first 0 (move -6 (move -6 A)))",
            "(grid 2 (less A (or A (move 6 (move 4 A)))))", "(trim 1 1 (long 1 (or (move 6 A) (move -6 B))))")


def acceptors(many):
    """Return the least machines of some sieves."""
    chance = random.Random(10)
    for _ in range(many):
        text = second_way.made_up(chance, "ABC"[:chance.randint(1, 3)], chance.randint(1, 7))
        yield text, machine(Sieve(text))


class MachineCase(Case):
    def check_accepts(self, made, text, most):
        """Ask for all plans of few ticks and for all sets of ticks."""
        for line, ticks in second_way.answers(text, made.names, most).items():
            plan = second_way.plan_of(made.names, line)
            for many in range(len(line) + 1):
                for row in itertools.combinations(range(len(line)), many):
                    self.assertIs(made.accepts(plan, row), set(row) == ticks, (text, line, row))


class LeastTest(MachineCase):
    def test_machines_worked_out_by_hand(self):
        for text, (names, moves, good) in BY_HAND.items():
            with self.subTest(text):
                made = machine(Sieve(text))
                self.assertEqual((made.names, made.moves, made.good), (names, moves, good))
                self.assertEqual(made.many, len(moves))
                self.check_accepts(made, text, 3)

    def test_kinds_of_values(self):
        for text in BY_HAND:
            made = machine(sieve=Sieve(text))
            self.assertIs(type(made), Machine)
            self.assertIs(type(made.many), int)
            for row in (made.names, made.moves, made.good, *made.moves):
                self.assertIs(type(row), tuple)
            for row in (made.good, *made.moves):
                self.assertTrue(all(type(stand) is int for stand in row))

    def test_each_word_with_each_number(self):
        for text in [f"({head} A)" for head in second_way.ALL_HEADS] + [f"({word} A B)" for word in second_way.BINARY]:
            made = machine(Sieve(text))
            self.check_shape(made)
            chance = random.Random(text)
            for _ in range(30):
                size = chance.randint(0, 20)
                plan = second_way.plan_of("AB", [(chance.random() < 0.6, chance.random() < 0.6) for _ in range(size)])
                right = second_way.answer(text, plan)
                self.assertIs(made.accepts(plan, right), True, (text, plan.text))
                for tick in range(size):
                    wrong = tuple(sorted(set(right) ^ {tick}))
                    self.assertIs(made.accepts(plan, wrong), False, (text, plan.text, wrong))

    def test_operations_within_one_another(self):
        for text, made in acceptors(150):
            self.check_accepts(made, text, {0: 5, 1: 5, 2: 3, 3: 2}[len(made.names)])

    def test_what_is_moved_alike_and_joined(self):
        for text in ("(and (move 1 A) (move 1 B))", "(or (move 2 A) (move 1 B))", "(less (move 1 A) (move 3 B))",
                     "(and (move -1 A) (move -1 B))", "(or (move -1 A) (move -2 B))", "(less (move -2 A) (move -1 B))",
                     "(and (move 1 A) (move -1 B))", "(or (move 0 A) (move 2 B))", "(less (move 1 (not A)) (move 1 (not B)))",
                     "(and (move 1 (not A)) (and (move 1 A) (move 2 B)))", "(less (move -1 all) (move -2 (fill 1 B)))",
                     "(held (move 1 A) (move 1 B))", "(meeting (move -1 A) (move -1 B))", "(or (move 1 A) (move 1 A))"):
            made = machine(Sieve(text))
            self.check_accepts(made, text, {1: 6, 2: 4}[len(made.names)])
            self.check_shape(made)
        for one, other in (("(and (move 6 A) (move 6 B))", "(move 6 (and A B))"),
                           ("(or (move 6 A) (move 4 B))", "(move 4 (or (move 2 A) B))"),
                           ("(less (move -6 A) (move -5 B))", "(move -5 (less (move -1 A) B))"),
                           ("(and (move -6 A) (move -6 B))", "(move -6 (and A B))")):
            self.assertEqual(machine(Sieve(one)), machine(Sieve(other)))
        self.check_too_many(machine, Sieve("(and (move 6 A) (move 6 (move 4 B)))"))
        self.check_too_many(machine, Sieve("(or (move 6 (meeting A B)) (move 6 (move 4 (or A B))))"))

    def test_as_few_stands_as_can_be_numbered_as_they_are_come_to(self):
        for _, made in acceptors(250):
            self.check_shape(made)

    def check_shape(self, made):
        """Ask whether a machine has all letters, whether its stands are numbered rightly and all of them differ."""
        self.assertTrue(all(len(row) == 2 << len(made.names) for row in made.moves))
        seen = [0]
        for stand in range(made.many):
            self.assertIn(stand, seen)
            seen.extend(sorted(set(made.moves[stand]) - set(seen), key=made.moves[stand].index))
        self.assertEqual(seen, list(range(made.many)))
        self.assertEqual(list(made.good), sorted(set(made.good)))
        kinds = [stand in made.good for stand in range(made.many)]
        for _ in range(made.many):
            kinds = [(kinds[stand], tuple(kinds[target] for target in made.moves[stand])) for stand in range(made.many)]
            numbers = {kind: number for number, kind in enumerate(dict.fromkeys(kinds))}
            kinds = [numbers[kind] for kind in kinds]
            if len(numbers) == made.many:
                return
        self.fail("two stands accept the same rows")

    def test_alike_sieves_with_the_same_names_have_the_same_machine(self):
        for one, other in (("(not all)", "none"), ("(pad 1 0 (pad 0 2 A))", "(pad 1 2 A)"), ("(move 0 A)", "A"),
                           ("(less A (less A B))", "(and A B)"), ("(held A A)", "(held A none)"), ("(trim 0 0 A)", "A"),
                           ("(move -1 (move -2 A))", "(move -3 A)"), ("(grid 3 (grid 3 B))", "(grid 3 B)"),
                           ("(not (or A B))", "(and (not A) (not B))"), ("(first 6 (long 3 A))", "(long 3 A)"),
                           ("(and (move -6 (move -2 A)) (move -6 (move -2 B)))", "(move -6 (move -2 (and A B)))")):
            self.assertEqual(machine(Sieve(one)), machine(Sieve(other)), (one, other))
        self.assertNotEqual(machine(Sieve("(less A A)")), machine(Sieve("none")))
        self.assertNotEqual(machine(Sieve("(and A (or A B))")), machine(Sieve("A")))

    def test_names_are_those_of_the_sieve(self):
        for text, names in (("none", ""), ("(and B A)", "AB"), ("(or Z (or M A))", "AMZ"), ("(less A A)", "A")):
            self.assertEqual(machine(Sieve(text)).names, tuple(names))

    def test_what_is_no_sieve(self):
        for given in ODD + STRINGS + INTEGERS + ("A", "(not A)", nested(15), Sieve, [Sieve("A")], machine(Sieve("A"))):
            self.check_raises(NotASieve, WrongValue, given, machine, given)
            self.check_raises(NotASieve, WrongValue, given, machine, sieve=given)


class TooManyTest(MachineCase):
    def test_a_thousand_stands_and_one_more(self):
        made = machine(Sieve(THOUSAND))
        self.assertEqual((made.many, repr(made)), (1000, "Machine(1000 stands)"))
        self.check_too_many(machine, Sieve(ONE_MORE))

    def test_many_stands(self):
        for text, many in (("(move 6 A)", 65), ("(move -6 A)", 128), ("(move 6 (move 3 A))", 513),
                           ("(move -6 (move -2 A))", 512), ("(trim 6 6 (trim 6 6 (trim 6 6 A)))", 56)):
            self.assertEqual(machine(Sieve(text)).many, many, text)

    def test_sieves_that_are_too_great(self):
        for text in TOO_GREAT:
            self.check_too_many(machine, Sieve(text))
            self.check_too_many(machine, sieve=Sieve(text))

    def test_sieves_that_are_too_great_in_a_part_alone(self):
        for text in IN_PARTS:
            self.check_too_many(machine, Sieve(text))

    def test_many_guesses_but_few_stands(self):
        # On the way to these machines there are far more sets of guesses than stands.
        for text, many in (("(grid 5 (or (short 2 (pad 6 1 (last 6 (grid 5 B)))) C))", 156),
                           ("(grid 3 (or A (trim 2 6 (not (pad 6 1 (pad 6 3 B))))))", 557),
                           ("(inside (grid 4 (meeting (pad 6 5 (trim 3 3 A)) B)) (last 5 (move 6 C)))", 2)):
            made = machine(Sieve(text))
            self.assertEqual(made.many, many)
            self.check_shape_of_answers(text, made)

    def check_shape_of_answers(self, text, made):
        chance = random.Random(text)
        for _ in range(20):
            plan = second_way.plan_of(made.names, [tuple(chance.random() < 0.7 for _ in made.names) for _ in range(25)])
            right = second_way.answer(text, plan)
            self.assertIs(made.accepts(plan, right), True)
            self.assertIs(made.accepts(plan, tuple(sorted(set(right) ^ {chance.randrange(25)}))), False)

    def test_what_needs_no_machine_raises_nothing(self):
        plan = Plan(12, (("A", (0, 11)), ("B", ()), ("C", ())))
        for text in TOO_GREAT + IN_PARTS:
            sieve = Sieve(text)
            self.assertEqual((sieve.text, str(sieve), len(sieve.parts) > 2), (text, text, True))
            self.assertEqual(sieve.run(plan), second_way.answer(text, plan))
            self.assertEqual(len(sieve.show(plan)), 12)
            for made in (sieve & Sieve("A"), Sieve("A") | sieve, sieve - Sieve("none"), ~sieve):
                self.assertIn(text, made.text)
            self.assertEqual(Sieve("A").with_part(0, sieve), sieve)
            self.assertEqual(sieve.with_part(0, Sieve("A")), Sieve("A"))


class AcceptsTest(MachineCase):
    def test_by_place_and_by_name(self):
        made, plan = machine(Sieve("(fill 1 A)")), Plan.read("5\nA #.#..\nB ....#")
        for ticks, truth in (((0, 1, 2), True), ((0, 2), False), ((), False), ((0, 1, 2, 4), False)):
            self.assertIs(made.accepts(plan, ticks), truth)
            self.assertIs(made.accepts(plan, ticks=ticks), truth)
            self.assertIs(made.accepts(ticks=ticks, plan=plan), truth)

    def test_lines_without_ticks_and_the_longest_ones(self):
        for text in BY_HAND:
            made = machine(Sieve(text))
            self.assertIs(made.accepts(Plan(0, tuple((name, ()) for name in made.names)), ()), True)
        plan = Plan(10000, (("A", tuple(range(0, 10000, 3))),))
        self.assertIs(machine(Sieve("(fill 2 A)")).accepts(plan, tuple(range(10000))), True)
        self.assertIs(machine(Sieve("(fill 2 A)")).accepts(plan, tuple(range(9999))), False)

    def test_plans_with_more_names(self):
        plan = Plan(3, (("A", (0,)), ("B", (1,)), ("C", (2,))))
        for text, ticks in (("A", (0,)), ("B", (1,)), ("(or C A)", (0, 2)), ("none", ()), ("all", (0, 1, 2))):
            self.assertIs(machine(Sieve(text)).accepts(plan, ticks), True)
            self.assertIs(machine(Sieve(text)).accepts(plan, ticks[1:] if ticks else (0,)), False)

    def test_errors_in_their_order(self):
        made = machine(Sieve("(or B (or A C))"))
        plan = Plan(3, (("B", (1,)),))
        for given in ODD + STRINGS + INTEGERS + ("3", plan.rows, nested(15)):
            if not isinstance(given, Plan):
                for ticks in ((), None, (9,)):
                    self.check_raises(NotAPlan, WrongValue, given, made.accepts, given, ticks)
                    self.check_raises(NotAPlan, WrongValue, given, made.accepts, ticks=ticks, plan=given)
        rows = ((3,), (-1,), (0, 3), (1, 0), (1, 1), (0, 2, 1), (True,), (False, 1), ("0",), (None,), ((0,),), (10**39,))
        for ticks in ODD + STRINGS + INTEGERS + rows + (nested(15), [0, 1], {0: 1}, range(3), Plan(3)):
            self.check_raises(InvalidTicks, WrongValue, ticks, made.accepts, plan, ticks)
            self.check_raises(InvalidTicks, WrongValue, ticks, made.accepts, ticks=ticks, plan=plan)
        for names, lacking in (("", "A"), ("B", "A"), ("AB", "C"), ("C", "A"), ("AC", "B"), ("XYZ", "A")):
            for ticks in ((), (0, 2)):
                with self.assertRaises(UnknownName) as held:
                    made.accepts(Plan(3, tuple((name, ()) for name in names)), ticks)
                self.assertIs(type(held.exception), UnknownName)
                self.assertIsInstance(held.exception, WrongMoment)
                self.assertEqual(held.exception.given, lacking)


class MachineTest(MachineCase):
    def test_equal_if_names_moves_and_good_stands_are(self):
        texts = ("A", "B", "none", "all", "(not A)", "(less A A)", "(less B B)", "(move 1 A)", "(and A B)", "(and A C)")
        for one, other in itertools.product(texts, repeat=2):
            self.assertIs(machine(Sieve(one)) == machine(Sieve(other)), one == other)
            self.assertIs(machine(Sieve(one)) != machine(Sieve(other)), one != other)

    def test_never_equal_to_another_class(self):
        made = machine(Sieve("A"))
        for other in ODD + STRINGS + INTEGERS + (made.moves, made.good, repr(made), Sieve("A")):
            self.assertIs(made == other, False)
            self.assertIs(made != other, True)

    def test_repr_and_truth(self):
        for text, many in (("A", 2), ("(short 2 A)", 5), ("none", 2)):
            made = machine(Sieve(text))
            self.assertEqual(repr(made), f"Machine({many} stands)")
            self.assertIs(bool(made), True)
        self.assertEqual(repr(Machine((), ((0, 0),), (0,))), "Machine(1 stands)")

    def test_they_stay_as_they_are(self):
        made, sieve = machine(Sieve("(short 2 A)")), Sieve("(short 2 A)")
        before = copy.deepcopy(vars(made))
        for name in ("names", "many", "moves", "good"):
            with self.subTest(name), self.assertRaises(AttributeError):
                setattr(made, name, ())
            with self.subTest(name), self.assertRaises(AttributeError):
                delattr(made, name)
        plan, ticks = Plan(3, (("A", (0, 1)),)), (0, 1)
        self.assertIs(made.accepts(plan, ticks), True)
        with self.assertRaises(InvalidTicks):
            made.accepts(plan, [0])
        self.assertEqual((vars(made), plan, ticks), (before, Plan(3, (("A", (0, 1)),)), (0, 1)))
        sieve_before = copy.deepcopy(vars(sieve))
        self.assertEqual(machine(sieve), made)
        self.assertEqual(machine(sieve), machine(sieve))
        self.assertEqual(vars(sieve), sieve_before)


if __name__ == "__main__":
    unittest.main()
