"""Points 3 to 8 and the interface of spansieve/sieves.py: answers, parts, operators and errors."""

import copy
import itertools
import random
import unittest

import second_way
from spansieve.errors import InvalidNumber, InvalidText, NotAPlan, NotASieve, UnknownName, WrongMoment, WrongValue
from spansieve.plans import Plan
from spansieve.sieves import Sieve
from values import INTEGERS, ODD, STRINGS, Case, nested

DOC_PLAN = Plan.read("12\nA .##..#.#...#\nB ..#......#.#")

# Runs of 1 to 8 ticks and gaps of 1 to 8 ticks, and runs that touch both ends.
RUNS = "".join("#" * many + "." * (9 - many) for many in range(1, 9))
LONG = RUNS[::-1] + "#" + RUNS + "###"

# Each answer was worked out by hand from the sentence of point 8.
BY_HAND = (
    ("A", "##..#...###.", "##..#...###."),
    ("none", "##..#...###.", "............"),
    ("all", "##..#...###.", "############"),
    ("(not A)", "##..#...###.", "..##.###...#"),
    ("(move 0 A)", "##..#...###.", "##..#...###."),
    ("(move 2 A)", "##..#...###.", "..##..#...##"),
    ("(move 6 A)", "##..#...###.", "......##..#."),
    ("(move -1 A)", "##..#...###.", "#..#...###.."),
    ("(move -6 A)", "##..#...###.", "..###......."),
    ("(pad 0 0 A)", "##..#...###.", "##..#...###."),
    ("(pad 1 0 A)", "##..#...###.", "##.##..####."),
    ("(pad 0 1 A)", "##..#...###.", "###.##..####"),
    ("(pad 0 2 A)", "#..........#", "###........#"),
    ("(pad 2 0 A)", "#..........#", "#........###"),
    ("(pad 6 6 A)", "............", "............"),
    ("(pad 6 6 A)", "#...........", "#######....."),
    ("(trim 0 0 A)", "##..#...###.", "##..#...###."),
    ("(trim 1 0 A)", "##..#...###.", ".#.......##."),
    ("(trim 0 1 A)", "##..#...###.", "#.......##.."),
    ("(trim 1 1 A)", "##..#...####", ".........##."),
    ("(trim 2 3 A)", "############", "..#######..."),
    ("(trim 6 6 A)", "############", "............"),
    ("(trim 6 6 A)", "#############", "......#......"),
    ("(fill 0 A)", "#.#..#...#..", "#.#..#...#.."),
    ("(fill 1 A)", "#.#..#...#..", "###..#...#.."),
    ("(fill 2 A)", ".#.#..#...#.", ".######...#."),
    ("(fill 6 A)", "..#......#..", "..########.."),
    ("(fill 6 A)", ".#.......#..", ".#.......#.."),
    ("(short 0 A)", "#.##.###.###", "#.##.###.###"),
    ("(short 1 A)", "#.##.###.###", "#.##.###.###"),
    ("(short 2 A)", "#.##.###.#.#", "..##.###...."),
    ("(short 3 A)", "##.###.#####", "...###.#####"),
    ("(short 6 A)", "#####.######", "......######"),
    ("(long 0 A)", "#.##.###.###", "............"),
    ("(long 1 A)", "#.##.###.#.#", "#........#.#"),
    ("(long 2 A)", "#.##.###.###", "#.##........"),
    ("(long 6 A)", "######.#####", "######.#####"),
    ("(long 6 A)", "#######.####", "........####"),
    ("(first 0 A)", "###.#.#####.", "............"),
    ("(first 1 A)", "###.#.#####.", "#...#.#....."),
    ("(first 3 A)", "##.#.#####.#", "##.#.###...#"),
    ("(first 6 A)", "#######.####", "######..####"),
    ("(last 0 A)", "###.#.#####.", "............"),
    ("(last 1 A)", "###.#.#####.", "..#.#.....#."),
    ("(last 3 A)", "##.#.#####.#", "##.#...###.#"),
    ("(last 6 A)", "####.#######", "####..######"),
    ("(grid 2 A)", "#..#.......#", "####......##"),
    ("(grid 3 A)", "...#......", "...###...."),
    ("(grid 4 A)", ".........#", "........##"),
    ("(grid 6 A)", ".....#......#", "######......#"),
    ("(grid 5 A)", "....#.....#", "#####.....#"),
)

# The answers for A and B.
BY_HAND_OF_TWO = (
    ("(and A B)", "##..#...###.", "#.#.#....###", "#...#....##."),
    ("(or A B)", "##..#...###.", "#.#.#....###", "###.#...####"),
    ("(less A B)", "##..#...###.", "#.#.#....###", ".#......#..."),
    ("(meeting A B)", "##..#...###.", "#..#......#.", "##......###."),
    ("(meeting A B)", "##.##.##.###", ".#.#.....#.#", "##.##....###"),
    ("(inside A B)", "##.##.##.###", "##..#.##.##.", "##....##...."),
    ("(inside A B)", "##.##.#.####", "#########.##", "##.##.#....."),
    ("(begun A B)", "##.##.##.###", "#...#.##..##", "##....##...."),
    ("(ended A B)", "##.##.##.###", "#...#.#..###", "...##....###"),
    ("(held A B)", "#...#.......", "..#...#..#..", "##..##......"),
    ("(held A B)", "#..#..#.....", "...#....#...", "########...."),
    ("(held A B)", "...#........", "#...........", "...#########"),
    ("(held A A)", "#..##..#....", "............", "############"),
    ("(held A B)", "..##........", "..##........", "..##########"),
)


def plan_of_marks(*rows):
    """Return the plan whose names, from A on, have these marks."""
    return Plan.read("\n".join([str(len(rows[0]))] + [f"{name} {row}" for name, row in zip("ABC", rows)]))


class AnswersTest(Case):
    def check_answer(self, text, plan, marks):
        with self.subTest(text, plan=plan.text):
            ticks = tuple(tick for tick, mark in enumerate(marks) if mark == "#")
            self.assertEqual(Sieve(text).show(plan), marks)
            self.assertEqual(Sieve(text).run(plan), ticks)
            self.assertEqual(second_way.answer(text, plan), ticks)

    def test_examples_of_the_document(self):
        marks = (".#######...#", ".##.........", ".##........#", ".####...####", ".########..#", "####....####")
        texts = ("(fill 2 A)", "(short 2 A)", "(meeting A B)", "(pad 1 2 B)", "(held A B)", "(grid 4 B)")
        for text, row in zip(texts, marks):
            self.check_answer(text, DOC_PLAN, row)
        self.assertEqual(Sieve("(meeting (fill 1 A) (move -2 B))").run(DOC_PLAN), (5, 6, 7))

    def test_answers_worked_out_by_hand(self):
        for text, marks, told in BY_HAND:
            self.check_answer(text, plan_of_marks(marks), told)

    def test_answers_for_two_names_worked_out_by_hand(self):
        for text, one, other, told in BY_HAND_OF_TWO:
            self.check_answer(text, plan_of_marks(one, other), told)

    def test_each_number_of_each_word_on_runs_and_gaps_of_several_lengths(self):
        for head in second_way.ALL_HEADS:
            for marks in (RUNS, LONG, LONG.replace("#", "x").replace(".", "#").replace("x", ".")):
                plan = plan_of_marks(marks)
                text = f"({head} A)"
                self.assertEqual(Sieve(text).run(plan), second_way.answer(text, plan), (text, marks))

    def test_each_number_of_each_word_on_all_short_lines(self):
        for head in second_way.ALL_HEADS:
            text = f"({head} A)"
            sieve = Sieve(text)
            for line, ticks in second_way.answers(text, ("A",), 5).items():
                self.assertEqual(sieve.run(second_way.plan_of(("A",), line)), tuple(sorted(ticks)), (text, line))

    def test_each_word_with_two_operands_on_all_short_lines(self):
        for word in second_way.BINARY:
            text = f"({word} A B)"
            sieve = Sieve(text)
            for line, ticks in second_way.answers(text, ("A", "B"), 4).items():
                self.assertEqual(sieve.run(second_way.plan_of("AB", line)), tuple(sorted(ticks)), (text, line))

    def test_operations_within_one_another(self):
        chance = random.Random(8)
        for _ in range(1500):
            text = second_way.made_up(chance, "ABC"[:chance.randint(1, 3)], chance.randint(2, 12))
            size = chance.randint(0, 16)
            marks = ["".join(chance.choice("##.") for _ in range(size)) for _ in "ABC"]
            plan = plan_of_marks(*marks)
            self.assertEqual(Sieve(text).run(plan), second_way.answer(text, plan), (text, marks))

    def test_lines_without_ticks(self):
        plan = Plan.read("0\nA \nB ")
        for text in [f"({head} A)" for head in second_way.ALL_HEADS] + [f"({word} A B)" for word in second_way.BINARY]:
            self.assertEqual(Sieve(text).run(plan), ())
            self.assertEqual(Sieve(text).show(plan), "")
        for text in ("A", "none", "all"):
            self.assertEqual((Sieve(text).run(Plan(0, (("A", ()),))), Sieve(text).show(plan)), ((), ""))

    def test_lines_with_one_tick(self):
        for marks, ticks in ((".", ()), ("#", (0,))):
            for text in ("A", "(pad 6 6 A)", "(fill 6 A)", "(short 1 A)", "(long 1 A)", "(first 1 A)", "(last 6 A)",
                         "(grid 6 A)", "(held A A)", "(meeting A A)", "(trim 0 0 A)", "(move 0 A)"):
                self.assertEqual(Sieve(text).run(plan_of_marks(marks)), ticks)
            for text in ("(move 1 A)", "(move -1 A)", "(trim 1 0 A)", "(trim 0 1 A)", "(short 2 A)", "(long 0 A)"):
                self.assertEqual(Sieve(text).run(plan_of_marks(marks)), ())

    def test_what_the_plan_has_besides_does_not_matter(self):
        plan = plan_of_marks("##.#", "#..#", ".##.")
        self.assertEqual(Sieve("(and A C)").run(plan), (1,))
        self.assertEqual(Sieve("B").run(plan), (0, 3))
        self.assertEqual(Sieve("none").run(plan), ())
        self.assertEqual(Sieve("all").run(plan), (0, 1, 2, 3))
        self.assertEqual(Sieve("all").run(Plan(3)), (0, 1, 2))
        rows = tuple((name, (at % 5,)) for at, name in enumerate("ABCDEFGHIJKLMNOPQRSTUVWXYZ"))
        self.assertEqual(Sieve("(or B (or M Z))").run(Plan(5, rows)), (0, 1, 2))

    def test_the_longest_lines(self):
        plan = Plan(10000, (("A", tuple(range(0, 10000, 3))), ("B", (9999,))))
        self.assertEqual(Sieve("(fill 2 A)").run(plan), tuple(range(10000)))
        self.assertEqual(Sieve("(fill 1 A)").run(plan), tuple(range(0, 10000, 3)))
        self.assertEqual(Sieve("(meeting (fill 2 A) B)").run(plan), tuple(range(10000)))
        self.assertEqual(Sieve("(begun (fill 2 A) B)").run(plan), ())
        self.assertEqual(Sieve("(grid 6 B)").run(plan), (9996, 9997, 9998, 9999))
        self.assertEqual(Sieve("(held B A)").run(plan), (9999,))
        self.assertEqual(Sieve("(move -6 B)").run(plan), (9993,))
        self.assertEqual(len(Sieve("(short 6 (fill 1 (not A)))").show(plan)), 10000)

    def test_by_place_and_by_name_and_kinds_of_values(self):
        sieve = Sieve("(fill 2 A)")
        self.assertEqual(sieve.run(plan=DOC_PLAN), sieve.run(DOC_PLAN))
        self.assertEqual(sieve.show(plan=DOC_PLAN), sieve.show(DOC_PLAN))
        for row in (sieve.run(DOC_PLAN), Sieve("none").run(DOC_PLAN), Sieve("A").run(DOC_PLAN)):
            self.assertIs(type(row), tuple)
            self.assertTrue(all(type(tick) is int for tick in row))
        self.assertIs(type(sieve.show(DOC_PLAN)), str)


class AskingErrorsTest(Case):
    def test_what_is_no_plan(self):
        for sieve in (Sieve("A"), Sieve("none"), Sieve("(and A B)")):
            for given in ODD + STRINGS + INTEGERS + (DOC_PLAN.text, DOC_PLAN.rows, Sieve("A"), nested(15), [DOC_PLAN]):
                if not isinstance(given, Plan):
                    for deed in (sieve.run, sieve.show):
                        self.check_raises(NotAPlan, WrongValue, given, deed, given)
                        self.check_raises(NotAPlan, WrongValue, given, deed, plan=given)

    def test_names_that_the_plan_has_not(self):
        cases = (("A", "", "A"), ("A", "BC", "A"), ("(and A B)", "A", "B"), ("(and A B)", "B", "A"), ("(and A B)", "", "A"),
                 ("(or C (or B A))", "", "A"), ("(or C (or B A))", "A", "B"), ("(or C (or B A))", "AB", "C"),
                 ("(less Z M)", "Z", "M"), ("(less Z M)", "AB", "M"), ("(less Z M)", "MY", "Z"),
                 ("(and none A)", "B", "A"), ("(short 6 (long 0 Q))", "P", "Q"))
        for text, names, lacking in cases:
            for size in (0, 3):
                plan = Plan(size, tuple((name, ()) for name in names))
                for deed in (Sieve(text).run, Sieve(text).show):
                    with self.assertRaises(UnknownName) as held:
                        deed(plan)
                    self.assertIs(type(held.exception), UnknownName)
                    self.assertIsInstance(held.exception, WrongMoment)
                    self.assertEqual(held.exception.given, lacking)
                    self.assertIs(type(held.exception.given), str)


class PartsTest(Case):
    def check_parts(self, *texts):
        sieve = Sieve(texts[0])
        self.assertIs(type(sieve.parts), tuple)
        self.assertTrue(all(type(part) is Sieve for part in sieve.parts))
        self.assertEqual(tuple(part.text for part in sieve.parts), texts)
        self.assertEqual(sieve.parts, tuple(map(Sieve, texts)))
        self.assertEqual(repr(sieve), f"Sieve({len(texts)} parts)")

    def test_parts_in_their_order(self):
        self.check_parts("A")
        self.check_parts("none")
        self.check_parts("(not A)", "A")
        self.check_parts("(and A B)", "A", "B")
        self.check_parts("(and B A)", "B", "A")
        self.check_parts("(meeting (fill 1 A) (move -2 B))", "(fill 1 A)", "A", "(move -2 B)", "B")
        self.check_parts("(or (or A (not B)) (less C all))", "(or A (not B))", "A", "(not B)", "B", "(less C all)", "C",
                         "all")
        self.check_parts("(pad 1 2 (trim 3 4 (grid 2 none)))", "(trim 3 4 (grid 2 none))", "(grid 2 none)", "none")
        self.check_parts("(and A A)", "A", "A")
        self.check_parts("(or (not A) (not A))", "(not A)", "A", "(not A)", "A")

    def test_names(self):
        for text, names in (("A", "A"), ("none", ""), ("(or all none)", ""), ("(and B A)", "AB"), ("(not (move 3 Q))", "Q"),
                            ("(or B (and A B))", "AB"), ("(or Z (or M A))", "AMZ")):
            self.assertEqual(Sieve(text).names, tuple(names))
            self.assertIs(type(Sieve(text).names), tuple)

    def test_each_part_in_the_place_of_another_one(self):
        sieve = Sieve("(or (or A (not B)) (less C all))")
        texts = ("(held A B)", "(or (held A B) (less C all))", "(or (or (held A B) (not B)) (less C all))",
                 "(or (or A (held A B)) (less C all))", "(or (or A (not (held A B))) (less C all))",
                 "(or (or A (not B)) (held A B))", "(or (or A (not B)) (less (held A B) all))",
                 "(or (or A (not B)) (less C (held A B)))")
        for index, text in enumerate(texts):
            self.assertEqual(sieve.with_part(index, Sieve("(held A B)")), Sieve(text))
            self.assertEqual(sieve.with_part(other=Sieve("(held A B)"), index=index).text, text)
        self.assertEqual(sieve.text, "(or (or A (not B)) (less C all))")
        for index, part in enumerate(sieve.parts):
            self.assertEqual(sieve.with_part(index, part), sieve)
        self.assertEqual(Sieve("A").with_part(0, Sieve("none")), Sieve("none"))
        self.assertEqual(Sieve("(pad 1 2 A)").with_part(1, Sieve("B")).text, "(pad 1 2 B)")
        self.assertEqual(Sieve("(and A A)").with_part(2, Sieve("B")).text, "(and A B)")

    def test_indexes_that_are_none(self):
        for text, many in (("A", 1), ("(not A)", 2), ("(meeting (fill 1 A) (move -2 B))", 5)):
            sieve = Sieve(text)
            for index in ODD + STRINGS + (-1, -many, many, many + 1, 12, 10**39, -(10**39), nested(15), sieve):
                for other in (Sieve("B"), None):
                    self.check_raises(InvalidNumber, WrongValue, index, sieve.with_part, index, other)
                    self.check_raises(InvalidNumber, WrongValue, index, sieve.with_part, other=other, index=index)

    def test_others_that_are_no_sieves(self):
        sieve = Sieve("(not A)")
        for other in ODD + STRINGS + INTEGERS + ("A", "(not A)", nested(15), Sieve, [sieve], (sieve,), sieve.run):
            for index in (0, 1):
                self.check_raises(NotASieve, WrongValue, other, sieve.with_part, index, other)
                self.check_raises(NotASieve, WrongValue, other, sieve.with_part, index=index, other=other)

    def check_too_much(self, text, deed, *args):
        with self.assertRaises(InvalidText) as held:
            deed(*args)
        self.assertIs(type(held.exception), InvalidText)
        self.assertEqual(held.exception.given, text)

    def test_parts_that_make_no_sieve(self):
        deep = Sieve("(not (not (not (not (not (not A))))))")
        self.check_too_much("(not (not (not (not (not (not (not A)))))))", deep.with_part, 6, Sieve("(not A)"))
        self.assertEqual(deep.with_part(5, Sieve("(not B)")).text, "(not (not (not (not (not (not B))))))")
        names = Sieve("(or A (or B C))")
        self.check_too_much("(or A (or B (or C D)))", names.with_part, 4, Sieve("(or C D)"))
        self.assertEqual(names.with_part(4, Sieve("D")).names, ("A", "B", "D"))
        self.check_too_much("(or (or D E) (or B C))", names.with_part, 1, Sieve("(or D E)"))
        wide = Sieve("(or (and (not A) (not A)) (and (not A) (not (not A))))")
        self.assertEqual(len(wide.parts), 12)
        self.check_too_much("(or (and (not (not B)) (not A)) (and (not A) (not (not A))))", wide.with_part, 3,
                            Sieve("(not B)"))
        self.assertEqual(len(wide.with_part(3, Sieve("B")).parts), 12)
        self.check_too_much(wide.text.replace("A", "@", 1).replace("@", wide.text), wide.with_part, 3, wide)

    def test_operators(self):
        one, other = Sieve("(fill 1 A)"), Sieve("B")
        made = {"(and (fill 1 A) B)": one & other, "(or (fill 1 A) B)": one | other, "(less (fill 1 A) B)": one - other,
                "(and B (fill 1 A))": other & one, "(or B (fill 1 A))": other | one, "(less B (fill 1 A))": other - one,
                "(not (fill 1 A))": ~one, "(not B)": ~other, "(and B B)": other & other, "(not (not B))": ~~other,
                "(or (and B (fill 1 A)) (not B))": other & one | ~other}
        for text, sieve in made.items():
            self.assertIs(type(sieve), Sieve)
            self.assertEqual((sieve.text, str(sieve)), (text, text))
        self.assertEqual((one.text, other.text), ("(fill 1 A)", "B"))
        for sieve, ticks in ((one & other, (2, 11)), (one | other, (1, 2, 5, 6, 7, 9, 11)), (one - other, (1, 5, 6, 7)),
                             (~one, (0, 3, 4, 8, 9, 10))):
            self.assertEqual(sieve.run(DOC_PLAN), ticks)

    def test_operands_that_are_no_sieves(self):
        sieve = Sieve("A")
        deeds = (lambda other: sieve & other, lambda other: sieve | other, lambda other: sieve - other)
        for other in ODD + STRINGS + INTEGERS + ("A", nested(15), Sieve, (sieve,)):
            for deed in deeds:
                self.check_raises(NotASieve, WrongValue, other, deed, other)

    def test_operators_that_make_no_sieve(self):
        deep, flat = Sieve("(not (not (not (not (not (not A))))))"), Sieve("B")
        self.check_too_much(f"(and {deep} B)", lambda: deep & flat)
        self.check_too_much(f"(or B {deep})", lambda: flat | deep)
        self.check_too_much(f"(less B {deep})", lambda: flat - deep)
        self.check_too_much(f"(not {deep})", lambda: ~deep)
        many, few = Sieve("(or A (or B C))"), Sieve("D")
        self.check_too_much("(and (or A (or B C)) D)", lambda: many & few)
        self.check_too_much("(less D (or A (or B C)))", lambda: few - many)
        six = Sieve("(or (not A) (not (not A)))")
        self.check_too_much(f"(or {six} {six})", lambda: six | six)
        five = Sieve("(or (not A) (not A))")
        self.assertEqual(len((five | six).parts), 12)
        self.check_raises(NotASieve, WrongValue, None, lambda: deep & None)


class SieveTest(Case):
    def test_texts_and_names_of_what_is_shown(self):
        sieve = Sieve("(meeting (fill 1 A) (move -2 B))")
        self.assertEqual((sieve.text, str(sieve)), ("(meeting (fill 1 A) (move -2 B))",) * 2)
        self.assertEqual(repr(sieve), "Sieve(5 parts)")
        self.assertEqual(repr(Sieve("A")), "Sieve(1 parts)")
        self.assertEqual(repr(Sieve("(not A)")), "Sieve(2 parts)")
        self.assertEqual(str(sieve & Sieve("C")), "(and (meeting (fill 1 A) (move -2 B)) C)")

    def test_equal_if_the_texts_are(self):
        texts = ("A", "B", "none", "all", "(not A)", "(not (not A))", "(and A B)", "(and B A)", "(fill 1 A)", "(fill 2 A)")
        for one, other in itertools.product(texts, repeat=2):
            self.assertIs(Sieve(one) == Sieve(other), one == other)
            self.assertIs(Sieve(one) != Sieve(other), one != other)

    def test_never_equal_to_another_class(self):
        sieve = Sieve("A")
        for other in ODD + STRINGS + INTEGERS + ("A", sieve.parts, repr(sieve), nested(15), Sieve, DOC_PLAN):
            self.assertIs(sieve == other, False)
            self.assertIs(sieve != other, True)
        for other in (None, "A", ("A",), 0, DOC_PLAN):
            self.assertIs(other == sieve, False)
            self.assertIs(other != sieve, True)

    def test_all_sieves_are_true(self):
        for text in ("none", "all", "A", "(not all)", "(short 6 none)"):
            self.assertIs(bool(Sieve(text)), True)

    def test_properties_cannot_be_set(self):
        sieve = Sieve("(not A)")
        for name in ("text", "names", "parts"):
            with self.subTest(name), self.assertRaises(AttributeError):
                setattr(sieve, name, ())
            with self.subTest(name), self.assertRaises(AttributeError):
                delattr(sieve, name)
        self.assertEqual(sieve, Sieve("(not A)"))

    def test_asking_changes_nothing(self):
        sieve, plan = Sieve("(meeting (fill 1 A) (move -2 B))"), Plan.read(DOC_PLAN.text)
        before, plan_before = copy.deepcopy(vars(sieve)), copy.deepcopy(vars(plan))
        for _ in range(2):
            told = (sieve.text, sieve.names, sieve.parts, sieve.run(plan), sieve.show(plan), sieve & sieve.parts[2],
                    sieve | sieve.parts[2], sieve - sieve.parts[2], ~sieve, sieve.with_part(1, Sieve("B")), repr(sieve))
            self.assertEqual(told, (sieve.text, sieve.names, sieve.parts, sieve.run(plan), sieve.show(plan),
                                    sieve & sieve.parts[2], sieve | sieve.parts[2], sieve - sieve.parts[2], ~sieve,
                                    sieve.with_part(1, Sieve("B")), repr(sieve)))
        for deed, args in ((sieve.run, (Plan(3),)), (sieve.show, (None,)), (sieve.with_part, (9, sieve))):
            with self.assertRaises((ValueError, LookupError)):
                deed(*args)
        self.assertEqual((vars(sieve), vars(plan)), (before, plan_before))


if __name__ == "__main__":
    unittest.main()
