"""Points 2, 3, 5, 10 and 13 and the interfaces of spansieve/checker.py and spansieve/claims.py."""

import ast
import pathlib
import random
import unittest

import second_way
from spansieve.checker import holds
from spansieve.claims import claim_of_gap, claim_of_parting, claim_of_run, claim_of_unsure
from spansieve.errors import InvalidNumber, InvalidText, NotASieve, TooMany, WrongValue
from spansieve.judging import alike, first_parting
from spansieve.lengths import longest_gap, longest_run
from spansieve.looking import ahead
from spansieve.machines import machine
from spansieve.plans import Plan
from spansieve.sieves import Sieve
from values import INTEGERS, ODD, STRINGS, TOO_GREAT, Case, nested

PACKAGE = pathlib.Path(__file__).resolve().parent.parent / "spansieve"

UNLIKE = ("unlike", "(fill 1 A)", "A", "4\nA #.#.", 1)
UNSURE = ("unsure", "(move -2 A)", 1, "4\nA ...#\nB ####", "3\nA ...", 1)
RUN = ("run", "(fill 1 A)", 3, "5\nA #.#..\nQ .....")
GAP = ("gap", "(short 2 A)", 3, "8\nA ##.#.##.")
CLAIMS = (UNLIKE, UNSURE, RUN, GAP)


def is_integer(value, least):
    return type(value) is int and value >= least


def read(text):
    """Return the plan with a text, None if there is none."""
    try:
        return Plan.read(text)
    except InvalidText:
        return None


def names_of(text):
    """Return the names of the sieve with a text, None if there is none."""
    try:
        return Sieve(text).names
    except InvalidText:
        return None


def fits(text, plan):
    return names_of(text) is not None and plan is not None and set(names_of(text)) <= set(plan.names)


def is_true(claim):
    """Tell whether a claim is true, tick by tick as points 7, 8 and 13 say it."""
    if type(claim) is not tuple or not claim or type(claim[0]) is not str:
        return False
    kind, rest = claim[0], claim[1:]
    if kind == "unlike" and len(rest) == 4:
        one, other, plan, tick = rest[0], rest[1], read(rest[2]), rest[3]
        if not fits(one, plan) or not fits(other, plan) or not is_integer(tick, 0) or tick >= plan.size:
            return False
        return (tick in second_way.answer(one, plan)) != (tick in second_way.answer(other, plan))
    if kind == "unsure" and len(rest) == 5:
        text, number, first, last, tick = rest[0], rest[1], read(rest[2]), read(rest[3]), rest[4]
        if not fits(text, first) or not fits(text, last) or not is_integer(number, 0) or not is_integer(tick, 0):
            return False
        known = tick + number
        if min(first.size, last.size) <= known:
            return False
        same = all((at in first.ticks(name)) == (at in last.ticks(name)) for name in names_of(text) for at in range(known + 1))
        return same and (tick in second_way.answer(text, first)) != (tick in second_way.answer(text, last))
    if kind in ("run", "gap") and len(rest) == 3:
        text, number, plan = rest[0], rest[1], read(rest[2])
        if not fits(text, plan) or not is_integer(number, 1):
            return False
        stretches = {"run": second_way.runs_of, "gap": second_way.gaps_of}[kind](set(second_way.answer(text, plan)), plan.size)
        return any(len(stretch) >= number for stretch in stretches)
    return False


def changes(claim):
    """Return claims that are changed at one place each, of all sorts."""
    others = ("A", "none", "(not A)", "(fill 2 (short 2 A))", "Q", "(and A B)", "0", "0\nA ", "5\nA #.#.#", "4\nA ###.", 0, 1, 2,
              3, 7, -1, True, False, None, "", "run", "gap", "unlike", "unsure", (), [], b"A", Sieve("A"), Plan(5), 10**39)
    for place, value in enumerate(claim):
        near = [value + 1, value - 1, value + 2] if is_integer(value, 0) else []
        if isinstance(value, str):
            near += [value + " ", value + "\n", value[:-1], value.replace("#", ".", 1), value.replace(".", "#", 1),
                     value.replace("A", "B"), value[:-1] + "#", "0" + value, [value], (value,)]
        for other in near + list(others):
            yield claim[:place] + (other,) + claim[place + 1:]
        yield claim[:place] + claim[place + 1:]
        yield claim[:place] + (value,) + claim[place:]


class ClaimCase(Case):
    def check(self, claim, expected=None):
        """Ask the checker, by place and by name, and the second way."""
        told = holds(claim)
        self.assertIs(holds(claim=claim), told)
        self.assertIs(type(told), bool)
        self.assertIs(told, is_true(claim), claim)
        if expected is not None:
            self.assertIs(told, expected, claim)

    def check_made(self, claim, kind, *known):
        """Ask whether a claim of the package is one that the checker accepts, and which it is."""
        self.assertEqual((type(claim), claim[:1 + len(known)]), (tuple, (kind,) + known))
        self.assertIs(holds(claim), True, claim)
        for text in claim[1:]:
            self.assertIn(type(text), (str, int))


class HoldsTest(ClaimCase):
    def test_true_claims(self):
        for claim in CLAIMS:
            self.check(claim, True)
            self.check(list(claim), False)
            self.check(claim + (None,), False)
            self.check(claim[:-1], False)
            self.check((claim,), False)

    def test_claims_that_are_changed_at_one_place(self):
        seen = {True: 0, False: 0}
        for claim in CLAIMS:
            for changed in changes(claim):
                self.check(changed)
                seen[holds(changed)] += 1
        self.assertTrue(seen[True] > 10 and seen[False] > 500, seen)

    def test_numbers(self):
        plan = "9\nA .###..#.#"
        for number in range(6):
            self.check(("run", "A", number, plan), 1 <= number <= 3)
            self.check(("gap", "A", number, plan), 1 <= number <= 2)
        for number in (-1, True, False, "1", None, (1,), 10**39):
            self.check(("run", "A", number, plan), False)
            self.check(("gap", "A", number, plan), False)
        for tick in range(-2, 12):
            self.check(("unlike", "A", "(trim 1 0 A)", plan, tick), tick in (1, 6, 8))
            self.check(("unlike", "A", "(fill 1 A)", plan, tick), tick == 7)
        for tick in (True, False, None, "1", (1,)):
            self.check(("unlike", "A", "(trim 1 0 A)", plan, tick), False)
        # The first and the last tick of a line.
        self.check(("unlike", "all", "(move 1 all)", "3", 0), True)
        self.check(("unlike", "all", "(move -1 all)", "3", 2), True)
        self.check(("unlike", "all", "(move -1 all)", "3", 3), False)
        self.check(("unlike", "all", "none", "0", 0), False)

    def test_runs_and_gaps_at_the_ends(self):
        for marks, run, gap in (("", 0, 0), ("#", 1, 0), (".", 0, 0), ("..##", 2, 0), ("##..", 2, 0), ("#..#", 1, 2),
                                ("....", 0, 0), ("####", 4, 0), ("..#..", 1, 0), (".#.#...##.", 2, 3)):
            for number in range(1, 6):
                plan = f"{len(marks)}\nA {marks}"
                self.check(("run", "A", number, plan), number <= run)
                self.check(("gap", "A", number, plan), number <= gap)

    def test_what_is_known_of_an_unsure_answer(self):
        for number in range(4):
            for tick in range(3):
                self.check(("unsure", "(move -2 A)", number, "4\nA ...#", "4\nA ....", tick))
                self.check(("unsure", "(meeting all A)", number, "4\nA ....", "5\nA ....#", tick), tick + number < 4)
                self.check(("unsure", "(short 4 all)", number, "3", "4", tick), tick + number < 3)
        self.check(("unsure", "(short 4 all)", 0, "3\nA ###", "4\nB ...#", 2), True)
        # Other names than those of the sieve may differ.
        self.check(("unsure", "(move -1 A)", 0, "2\nA .#\nB ##", "2\nA ..\nC .#", 0), True)
        self.check(("unsure", "(move -1 A)", 0, "2\nB ##", "2\nA ..", 0), False)
        for number in (True, False, -1, None, "0", 10**39):
            self.check(("unsure", "(move -1 A)", number, "2\nA .#", "2\nA ..", 0), False)
            self.check(("unsure", "(move -1 A)", 0, "2\nA .#", "2\nA ..", number), False)

    def test_values_of_all_sorts(self):
        for value in ODD + STRINGS + INTEGERS + (nested(15), (), ("unlike",), ("run",), (None,), (("run", "A", 1, "1\nA #"),)):
            self.assertIs(holds(value), False)
            for claim in CLAIMS:
                for place in range(len(claim)):
                    self.assertIs(holds(claim[:place] + (value,) + claim[place + 1:]),
                                  type(value) is str and is_true(claim[:place] + (value,) + claim[place + 1:])
                                  or type(value) is int and is_true(claim[:place] + (value,) + claim[place + 1:]))

    def test_plans_without_a_name(self):
        self.check(("run", "A", 1, "1"), False)
        self.check(("run", "A", 1, "1\nB #"), False)
        self.check(("run", "(or A B)", 1, "1\nB #"), False)
        self.check(("run", "(less B B)", 1, "1\nA #"), False)
        self.check(("unlike", "A", "B", "1\nA #", 0), False)
        self.check(("unlike", "B", "A", "1\nA #", 0), False)
        self.check(("unlike", "A", "none", "1\nA #", 0), True)

    def test_great_sieves_and_long_lines(self):
        for text in TOO_GREAT[:2]:
            plan = Plan(40, (("A", (20,)),))
            self.assertIs(holds(("run", text, 1, plan.text)), True)
            self.assertIs(holds(("run", text, 2, plan.text)), False)
        plan = Plan(10000, (("A", (0, 9999)), ("B", tuple(range(10000)))))
        for claim, expected in ((("gap", "A", 9998, plan.text), True), (("gap", "A", 9999, plan.text), False),
                                (("run", "B", 10000, plan.text), True), (("run", "B", 10001, plan.text), False),
                                (("unlike", "A", "B", plan.text, 9999), False), (("unlike", "A", "B", plan.text, 9998), True),
                                (("unsure", "(meeting B A)", 9997, Plan(9999, (("A", ()), ("B", tuple(range(9999))))).text,
                                  Plan(10000, (("A", (9999,)), ("B", tuple(range(10000))))).text, 1), True)):
            self.assertIs(holds(claim), expected)

    def test_it_uses_plans_sieves_and_errors_alone(self):
        tree = ast.parse((PACKAGE / "checker.py").read_text())
        found = {part.module for part in ast.walk(tree) if isinstance(part, ast.ImportFrom)}
        self.assertEqual(found, {"spansieve.plans", "spansieve.sieves", "spansieve.errors"})


class ExampleTest(ClaimCase):
    def test_examples_of_the_document(self):
        one, other = Sieve("(fill 1 (short 2 A))"), Sieve("(short 2 (fill 1 A))")
        claim = claim_of_parting(one, other)
        self.assertEqual([claim, holds(claim), holds(claim[:4] + (1,)), holds(claim[:4] + (3,)), holds(None)], [
            ("unlike", "(fill 1 (short 2 A))", "(short 2 (fill 1 A))", "3\nA #.#", 0), True, True, False, False])
        self.assertEqual([holds(claim_of_unsure(other, 1)), claim_of_unsure(Sieve("A"), 0), holds(claim_of_run(other, 7)),
                          claim_of_run(Sieve("(long 2 A)"), 3), holds(claim_of_gap(Sieve("A"), 4))],
                         [True, None, True, None, True])


class MadeTest(ClaimCase):
    def sieves(self, seed, many, parts=6):
        chance = random.Random(seed)
        found = [Sieve(text) for text in ("A", "none", "all", "(not all)", "(short 3 all)", "(meeting all A)")]
        while len(found) < many:
            sieve = Sieve(second_way.made_up(chance, "ABC"[:chance.randint(1, 3)], chance.randint(1, parts)))
            try:
                machine(sieve)
            except TooMany:
                continue
            found.append(sieve)
        return found

    def test_partings(self):
        sieves = self.sieves(51, 60)
        chance = random.Random(1)
        for one in sieves:
            other = chance.choice(sieves)
            claim = claim_of_parting(one, other)
            self.assertEqual(claim_of_parting(other=other, one=one), claim)
            if alike(one, other):
                self.assertIsNone(claim)
            else:
                plan, tick = first_parting(one, other)
                self.check_made(claim, "unlike", one.text, other.text, plan.text, tick)
                self.check_changes(claim)
        self.assertIsNone(claim_of_parting(Sieve("(less A (less A B))"), Sieve("(and A B)")))

    def test_unsure_answers(self):
        for sieve in self.sieves(52, 50):
            most = ahead(sieve)
            for number in (0, 1, 2, 7, 100, 1000):
                claim = claim_of_unsure(sieve, number)
                self.assertEqual(claim_of_unsure(number=number, sieve=sieve), claim)
                if most is not None and most <= number:
                    self.assertIsNone(claim)
                else:
                    self.check_made(claim, "unsure", sieve.text, number)
                    self.assertEqual([Plan.read(text).names for text in claim[3:5]], [sieve.names] * 2)
                    self.check_changes(claim)
                    if most is not None:
                        self.assertIs(holds(("unsure", sieve.text, most) + claim[3:]), False)

    def test_runs_and_gaps(self):
        for sieve in self.sieves(53, 60):
            for deed, kind, most in ((claim_of_run, "run", longest_run(sieve)), (claim_of_gap, "gap", longest_gap(sieve))):
                for number in (1, 2, 3, 7, 100, 999, 1000) + ((most, most + 1) if most else ()):
                    claim = deed(sieve, number)
                    self.assertEqual(deed(number=number, sieve=sieve), claim)
                    if most is not None and most < number:
                        self.assertIsNone(claim)
                    else:
                        self.check_made(claim, kind, sieve.text, number)
                        self.assertEqual(Plan.read(claim[3]).names, sieve.names)
                        self.check_changes(claim)
                        if most is not None:
                            self.assertIs(holds((kind, sieve.text, most + 1, claim[3])), False)

    def check_changes(self, claim):
        """Change a claim at one place, and ask the checker again where the second way does not take long."""
        size = max([Plan.read(text).size for text in claim[1:] if read(text) is not None])
        if size < 12:
            for changed in changes(claim):
                self.check(changed)

    def test_runs_and_gaps_of_just_so_many_ticks(self):
        for text, run, gap in (("(long 4 A)", 4, None), ("(not (long 4 A))", None, 4), ("(less (fill 6 A) A)", 6, None),
                               ("(first 1 all)", 1, 0), ("(or A (not (fill 2 A)))", None, 2), ("(less A A)", 0, 0),
                               ("(pad 6 6 (move 6 (not (move 1 all))))", 13, 0)):
            for deed, kind, most in ((claim_of_run, "run", run), (claim_of_gap, "gap", gap)):
                if most is None:
                    self.check_made(deed(Sieve(text), 1000), kind, text, 1000)
                    continue
                if most:
                    self.check_made(deed(Sieve(text), most), kind, text, most)
                    self.assertIs(holds((kind, text, most + 1, deed(Sieve(text), most)[3])), False)
                self.assertIsNone(deed(Sieve(text), most + 1))
                self.assertIsNone(deed(Sieve(text), 1000))

    def test_a_sieve_with_just_as_many_stands_as_may_be(self):
        sieve = Sieve("(and A (move -6 (ended A B)))")
        self.check_made(claim_of_run(sieve, 1000), "run", sieve.text, 1000)
        self.check_made(claim_of_gap(sieve, 1000), "gap", sieve.text, 1000)
        self.check_made(claim_of_unsure(sieve, 1000), "unsure", sieve.text, 1000)
        self.check_made(claim_of_parting(sieve, Sieve("A")), "unlike", sieve.text, "A")

    def test_equal_arguments_give_equal_claims_and_stay_as_they_are(self):
        sieve = Sieve("(fill 2 (or A B))")
        before = dict(vars(sieve))
        for deed in (claim_of_unsure, claim_of_run, claim_of_gap):
            self.assertEqual(deed(sieve, 1), deed(Sieve("(fill 2 (or A B))"), 1))
        self.assertEqual(vars(sieve), before)


class ErrorsTest(ClaimCase):
    NUMBERED = ((claim_of_unsure, (-1, 1001, 1002)), (claim_of_run, (-1, 0, 1001)), (claim_of_gap, (-1, 0, 1001)))

    def test_what_is_no_sieve(self):
        for given in ODD + STRINGS + INTEGERS + ("(not A)", nested(15), Sieve, [Sieve("A")]):
            self.check_raises(NotASieve, WrongValue, given, claim_of_parting, given, Sieve("A"))
            self.check_raises(NotASieve, WrongValue, given, claim_of_parting, other=Sieve(TOO_GREAT[0]), one=given)
            self.check_raises(NotASieve, WrongValue, given, claim_of_parting, Sieve("A"), given)
            self.check_raises(NotASieve, WrongValue, given, claim_of_parting, Sieve(TOO_GREAT[0]), given)
            self.check_raises(NotASieve, WrongValue, given, claim_of_parting, given, None)
            for deed, wrong in self.NUMBERED:
                for number in (1, 1000, True, None) + wrong:
                    self.check_raises(NotASieve, WrongValue, given, deed, given, number)
                    self.check_raises(NotASieve, WrongValue, given, deed, number=number, sieve=given)

    def test_numbers_that_are_none(self):
        for deed, wrong in self.NUMBERED:
            for number in ODD + STRINGS + wrong + (10**39, -(10**39), nested(15)):
                for sieve in (Sieve("A"), Sieve(TOO_GREAT[0])):
                    self.check_raises(InvalidNumber, WrongValue, number, deed, sieve, number)
                    self.check_raises(InvalidNumber, WrongValue, number, deed, number=number, sieve=sieve)

    def test_sieves_that_are_too_great(self):
        for text in TOO_GREAT:
            self.check_too_many(claim_of_parting, Sieve(text), Sieve("A"))
            self.check_too_many(claim_of_parting, other=Sieve(text), one=Sieve("A"))
            for deed, _ in self.NUMBERED:
                self.check_too_many(deed, Sieve(text), 1)
                self.check_too_many(deed, number=1000, sieve=Sieve(text))


if __name__ == "__main__":
    unittest.main()
