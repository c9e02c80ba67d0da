"""Points 3, 5 and 6 and the interface of spansieve/plans.py."""

import copy
import itertools
import unittest

from spansieve.errors import InvalidNumber, InvalidRows, InvalidText, UnknownName, WrongMoment, WrongValue
from spansieve.plans import Plan
from values import ODD, STRINGS, Alike, Case, Silent, nested

ALPHABET = "ABCDEFGHIJKLMNOPQRSTUVWXYZ"

SAMPLE_TEXT = "12\nA .##..#.#...#\nB ..#......#.#"
SAMPLE_ROWS = (("A", (1, 2, 5, 7, 11)), ("B", (2, 9, 11)))


class MakingTest(Case):
    def check_size(self, size):
        for args, more in (((size,), {}), ((size, ()), {}), ((), {"size": size}), ((), {"rows": (), "size": size})):
            self.check_raises(InvalidNumber, WrongValue, size, Plan, *args, **more)

    def check_rows(self, rows, size=5):
        self.check_raises(InvalidRows, WrongValue, rows, Plan, size, rows)
        self.check_raises(InvalidRows, WrongValue, rows, Plan, size, rows=rows)
        self.check_raises(InvalidRows, WrongValue, rows, Plan, rows=rows, size=size)

    def test_by_place_and_by_name(self):
        plans = (
            Plan(12, SAMPLE_ROWS),
            Plan(12, rows=SAMPLE_ROWS),
            Plan(size=12, rows=SAMPLE_ROWS),
            Plan(rows=SAMPLE_ROWS, size=12),
        )
        for plan in plans:
            self.assertEqual(plan.size, 12)
            self.assertEqual(plan.rows, SAMPLE_ROWS)
            self.assertEqual(plan.names, ("A", "B"))
            self.assertEqual(plan.text, SAMPLE_TEXT)

    def test_no_rows_handed_over(self):
        for plan in (Plan(3), Plan(size=3), Plan(3, ()), Plan(3, rows=())):
            self.assertEqual((plan.size, plan.rows, plan.names, plan.text), (3, (), (), "3"))

    def test_kinds_of_values(self):
        plan = Plan(12, SAMPLE_ROWS)
        self.assertIs(type(plan.size), int)
        self.assertIs(type(plan.text), str)
        for row in (plan.rows, plan.names, *plan.rows, plan.rows[0][1], plan.ticks("A")):
            self.assertIs(type(row), tuple)

    def test_line_without_ticks(self):
        self.assertEqual(Plan(0).text, "0")
        plan = Plan(0, (("A", ()), ("Q", ())))
        self.assertEqual((plan.size, plan.names, plan.text), (0, ("A", "Q"), "0\nA \nQ "))

    def test_most_ticks(self):
        plan = Plan(10000, (("Z", (0, 9999)),))
        self.assertEqual(plan.text, "10000\nZ #" + "." * 9998 + "#")
        full = Plan(10000, (("A", tuple(range(10000))),))
        self.assertEqual(full.text, "10000\nA " + "#" * 10000)

    def test_all_names(self):
        rows = tuple((name, (at,)) for at, name in enumerate(ALPHABET))
        plan = Plan(26, rows)
        self.assertEqual(plan.names, tuple(ALPHABET))
        self.assertEqual(plan.rows, rows)
        self.assertEqual(len(plan.text.split("\n")), 27)
        self.assertEqual(plan.ticks("Z"), (25,))

    def test_sizes_that_are_none(self):
        for size in (-1, 10001, -10000, 10**39, -(10**39), 2**64):
            self.check_size(size)

    def test_sizes_that_are_no_integers(self):
        for size in ODD + STRINGS:
            self.check_size(size)

    def test_rows_that_are_no_tuples(self):
        for rows in ODD + STRINGS:
            self.check_rows(rows)
        for rows in (0, 1, [("A", (0,))], {"A": (0,)}, (pair for pair in SAMPLE_ROWS), "AB"):
            self.check_rows(rows)

    def test_pairs_that_are_none(self):
        for pair in ODD + STRINGS + (0, (), ("A",), ("A", (), ()), ["A", ()], ("A", (), None), "A()"):
            self.check_rows((pair,))
            self.check_rows((("A", (0,)), pair))

    def test_names_that_are_none(self):
        names = ("", "a", "z", "AA", "AB", "ABC", "@", "[", "1", " ", "A ", " A", "\n", "A\n", "\xc4", "\uff21")
        for name in names + (0, 65, None, True, b"A", ("A",), ["A"], (), Alike(), Silent(), str, len, nested(12)):
            self.check_rows(((name, ()),))
            self.check_rows(((name, (0,)), ("Z", ())))

    def test_names_that_do_not_rise(self):
        for names in ("AA", "BA", "ABB", "ACB", "ZAB", "ABA"):
            self.check_rows(tuple((name, ()) for name in names))

    def test_ticks_that_are_no_tuples(self):
        for ticks in (None, 0, 1, True, "", "0", b"", [], [0], {}, {0: True}, {0}, range(2), iter(()), len, Alike()):
            self.check_rows((("A", ticks),))
            self.check_rows((("A", ()), ("B", ticks)))

    def test_ticks_that_do_not_rise(self):
        for ticks in ((0, 0), (1, 0), (0, 1, 1), (0, 2, 1), (4, 4), (0, 1, 2, 3, 2)):
            self.check_rows((("A", ticks),))

    def test_ticks_off_the_line(self):
        for ticks in ((-1,), (5,), (0, 5), (-1, 0), (0, 10**39), (-(10**39), 2), (10000,)):
            self.check_rows((("A", ticks),))
        self.check_rows((("A", (0,)),), size=0)
        self.check_rows((("A", (1,)),), size=1)
        self.check_rows((("A", (10000,)),), size=10000)
        self.assertEqual(Plan(5, (("A", (0, 4)),)).ticks("A"), (0, 4))

    def test_ticks_that_are_no_integers(self):
        for tick in ODD + STRINGS:
            self.check_rows((("A", (tick,)),))
            self.check_rows((("A", (0, tick)),))
        self.check_rows((("A", (False,)),))
        self.check_rows((("A", (0, True)),))
        self.check_rows((("A", (True, 2)),))
        self.check_rows((("A", (1,)), ("B", (False, True))))

    def test_the_size_is_looked_at_first(self):
        for size in (-1, 10001, True, None, [], "5"):
            for rows in (None, [], (("a", ()),), (("A", (99999,)),)):
                self.check_raises(InvalidNumber, WrongValue, size, Plan, size, rows)
                self.check_raises(InvalidNumber, WrongValue, size, Plan, rows=rows, size=size)

    def test_several_faults_in_rows_are_one_error(self):
        self.check_rows((("b", (9, 1)), ["A", [True]], None))

    def test_what_is_handed_over_is_not_changed(self):
        rows = [["A", [1, 0]], ("B", [True])]
        kept = copy.deepcopy(rows)
        self.check_rows(rows)
        self.check_rows(tuple(rows))
        self.assertEqual(rows, kept)


class AskingTest(Case):
    def setUp(self):
        self.plan = Plan(12, SAMPLE_ROWS)

    def test_ticks(self):
        for name, ticks in SAMPLE_ROWS:
            self.assertEqual(self.plan.ticks(name), ticks)
            self.assertEqual(self.plan.ticks(name=name), ticks)
        self.assertEqual(Plan(0, (("A", ()),)).ticks("A"), ())
        self.assertEqual(Plan(2, (("A", ()),)).ticks("A"), ())

    def test_marks(self):
        self.assertEqual(self.plan.marks("A"), ".##..#.#...#")
        self.assertEqual(self.plan.marks(name="B"), "..#......#.#")
        self.assertEqual(Plan(0, (("A", ()),)).marks("A"), "")
        self.assertEqual(Plan(1, (("A", ()),)).marks("A"), ".")
        self.assertEqual(Plan(1, (("A", (0,)),)).marks("A"), "#")
        self.assertEqual(Plan(3, (("A", (0, 1, 2)),)).marks("A"), "###")

    def test_names_that_the_plan_has_not(self):
        names = ("C", "Z", "a", "", "AB", "A ", " ", "\n", "\xc4", "A" * 49999, 0, 1, 10**39, nested(15))
        for name in names + ODD:
            for deed in (self.plan.ticks, self.plan.marks):
                self.check_raises(UnknownName, WrongMoment, name, deed, name)
                self.check_raises(UnknownName, WrongMoment, name, deed, name=name)

    def test_a_plan_without_names_has_none(self):
        for name in ALPHABET:
            self.check_raises(UnknownName, WrongMoment, name, Plan(3).ticks, name)
            self.check_raises(UnknownName, WrongMoment, name, Plan(0).marks, name)

    def test_str_and_repr(self):
        self.assertEqual(str(self.plan), SAMPLE_TEXT)
        self.assertEqual(str(Plan(0)), "0")
        self.assertEqual(repr(self.plan), "Plan(12 ticks)")
        self.assertEqual(repr(Plan(5)), "Plan(5 ticks)")
        self.assertEqual(repr(Plan(1)), "Plan(1 ticks)")
        self.assertEqual(repr(Plan(0, (("A", ()),))), "Plan(0 ticks)")
        self.assertEqual(repr(Plan(10000)), "Plan(10000 ticks)")

    def test_equal_calls_have_equal_results(self):
        again = Plan(12, SAMPLE_ROWS)
        for plan in (again, self.plan, again):
            self.assertEqual((plan.text, plan.names, plan.rows), (SAMPLE_TEXT, ("A", "B"), SAMPLE_ROWS))
            self.assertEqual(plan.cut(3), self.plan.cut(3))


class StayingTest(Case):
    def test_properties_cannot_be_set(self):
        plan = Plan(12, SAMPLE_ROWS)
        for name in ("size", "rows", "names", "text"):
            with self.subTest(name), self.assertRaises(AttributeError):
                setattr(plan, name, 1)
            with self.subTest(name), self.assertRaises(AttributeError):
                delattr(plan, name)
        self.assertEqual(plan, Plan.read(SAMPLE_TEXT))

    def test_asking_changes_nothing(self):
        plan = Plan(12, SAMPLE_ROWS)
        before = copy.deepcopy(vars(plan))
        asked = (plan.size, plan.rows, plan.names, plan.text, plan.ticks("A"), plan.marks("B"), plan.cut(3), str(plan),
                 repr(plan), plan == plan.cut(2), plan != 3)
        self.assertEqual(len(asked), 11)
        for deed, value in ((plan.ticks, "C"), (plan.marks, None), (plan.cut, 13), (plan.cut, True)):
            with self.assertRaises((ValueError, LookupError)):
                deed(value)
        self.assertEqual(vars(plan), before)


class EqualityTest(Case):
    def check_unlike(self, one, other):
        self.assertIs(one == other, False)
        self.assertIs(one != other, True)

    def test_equal_if_size_and_rows_are(self):
        for one, other in ((Plan(3), Plan(3)), (Plan(12, SAMPLE_ROWS), Plan.read(SAMPLE_TEXT)),
                           (Plan(0, (("A", ()),)), Plan.read("0\nA "))):
            self.assertIs(one == other, True)
            self.assertIs(one != other, False)

    def test_unlike_if_one_of_both_is(self):
        plans = (Plan(0), Plan(1), Plan(3), Plan(0, (("A", ()),)), Plan(3, (("A", ()),)), Plan(3, (("B", ()),)),
                 Plan(3, (("A", (1,)),)), Plan(3, (("A", (2,)),)), Plan(4, (("A", (1,)),)),
                 Plan(3, (("A", (1,)), ("B", ()))))
        for one, other in itertools.permutations(plans, 2):
            self.check_unlike(one, other)

    def test_never_equal_to_another_class(self):
        plan = Plan(3, (("A", (1,)),))
        for other in ODD + STRINGS + (3, plan.text, plan.rows, (3, plan.rows), repr(plan), 10**39, nested(15)):
            self.check_unlike(plan, other)
        for other in (None, 3, plan.text, plan.rows, (3, plan.rows)):
            self.check_unlike(other, plan)

    def test_all_plans_are_true(self):
        for plan in (Plan(0), Plan(1), Plan(0, (("A", ()),)), Plan(5, (("A", (0,)),))):
            self.assertIs(bool(plan), True)


class CutTest(Case):
    def test_first_ticks(self):
        plan = Plan(12, SAMPLE_ROWS)
        self.assertEqual(plan.cut(6).text, "6\nA .##..#\nB ..#...")
        self.assertEqual(plan.cut(size=1), Plan(1, (("A", ()), ("B", ()))))
        self.assertEqual(plan.cut(11).rows, (("A", (1, 2, 5, 7)), ("B", (2, 9))))
        self.assertEqual(plan, Plan(12, SAMPLE_ROWS))

    def test_cut_to_nothing_keeps_the_names(self):
        self.assertEqual(Plan(12, SAMPLE_ROWS).cut(0).text, "0\nA \nB ")
        self.assertEqual(Plan(12).cut(0), Plan(0))
        self.assertEqual(Plan(0, (("A", ()),)).cut(0).text, "0\nA ")

    def test_cut_to_the_own_size(self):
        for plan in (Plan(0), Plan(1), Plan(12, SAMPLE_ROWS), Plan(10000, (("C", (9999,)),))):
            self.assertEqual(plan.cut(plan.size), plan)

    def test_sizes_that_it_cannot_be_cut_to(self):
        for plan in (Plan(0), Plan(1), Plan(12, SAMPLE_ROWS), Plan(10000)):
            for size in ODD + STRINGS + (-1, plan.size + 1, 10001, 10**39, -(10**39)):
                self.check_raises(InvalidNumber, WrongValue, size, plan.cut, size)
                self.check_raises(InvalidNumber, WrongValue, size, plan.cut, size=size)


class ReadTest(Case):
    def check_text(self, text):
        self.check_raises(InvalidText, WrongValue, text, Plan.read, text)
        self.check_raises(InvalidText, WrongValue, text, Plan.read, text=text)

    def test_texts_of_plans(self):
        plan = Plan.read(SAMPLE_TEXT)
        self.assertEqual((plan.size, plan.rows), (12, SAMPLE_ROWS))
        self.assertEqual(Plan.read(text="3"), Plan(3))
        self.assertEqual(Plan.read("0"), Plan(0))
        self.assertEqual(Plan.read("0\nA \nB "), Plan(0, (("A", ()), ("B", ()))))
        self.assertEqual(Plan.read("1\nQ #"), Plan(1, (("Q", (0,)),)))
        self.assertEqual(plan.read("10"), Plan(10))

    def test_kinds_of_what_is_read(self):
        plan = Plan.read(SAMPLE_TEXT)
        self.assertIs(type(plan), Plan)
        self.assertIs(type(plan.size), int)
        for row in (plan.rows, *plan.rows, plan.rows[1][1]):
            self.assertIs(type(row), tuple)

    def test_the_longest_texts(self):
        plan = Plan(10000, tuple((name, tuple(range(at, 10000, at + 1))) for at, name in enumerate(ALPHABET)))
        self.assertEqual(Plan.read(plan.text), plan)
        self.assertEqual(Plan.read("10000"), Plan(10000))

    def test_what_is_no_string(self):
        for text in ODD + (0, 12, 10**39, SAMPLE_TEXT.encode(), [SAMPLE_TEXT], (SAMPLE_TEXT,), nested(15)):
            self.check_text(text)

    def test_numbers_that_are_none(self):
        for word in ("", "00", "01", "012", "0003", "-0", "-1", "-12", "+3", "3.", "3.0", "1e3", "1_0", "0x3", "x", "A",
                     " 3", "3 ", " ", "3\t", "3\r", "10001", "99999", "100000", "10000000", "9" * 39, "1" * 49999,
                     "\u0663", "\xb2", "\xb3", "\uff13", "three", "None", "#", "."):
            self.check_text(word)
            self.check_text(word + "\nA ...")
            self.check_text(word + "\nA ")

    def test_blanks_and_line_ends(self):
        for text in ("3\n", "\n3", "3\n\n", "3\r\nA ...", "3\nA ...\n", "3\n\nA ...", "\n3\nA ...", "3\nA ...\n\nB ...",
                     "3 A ...", "3\nA ... ", "3\n A ...", "3\nA  ...", "3\nA...", "3\nA\t...", "3 \nA ...", " 3\nA ...",
                     "3\nA ...\r\nB ...", "3\nA ...\rB ...", "3\nA . . .", "3/A ...", "\n", "\n\n", " \n ", "3\nA ..\n."):
            self.check_text(text)

    def test_a_line_without_ticks_keeps_its_blank(self):
        for text in ("0\nA", "0\nA  ", "0\nA .", "0\nA #", "0\n", "0\n ", "0\nA \n", "0\nA \nB", "0\nA\nB ", "0\nA \n\n"):
            self.check_text(text)

    def test_numbers_of_marks(self):
        for text in ("3\nA ..", "3\nA ....", "3\nA ", "3\nA", "3\nA ##", "3\nA ####", "1\nA ", "1\nA ..", "1\nA .#",
                     "2\nA ..\nB ...", "2\nA ...\nB ..", "10000\nA .", "3\nA ..." + "." * 40000):
            self.check_text(text)

    def test_other_marks(self):
        for text in ("3\nA ..x", "3\nA ..1", "3\nA .,.", "3\nA .. ", "3\nA ..\xb7", "3\nA ..A", "3\nA #-#", "3\nA *.."):
            self.check_text(text)

    def test_names(self):
        for text in ("1\na .", "1\nAB .", "1\n1 .", "1\n. .", "1\n# #", "1\n .", "1\n  .", "1\nA .\nA .", "1\nB .\nA .",
                     "1\nA .\nC .\nB .", "1\nA #\nA #", "1\nZ .\nA .", "1\n\xc4 .", "1\n\uff21 .", "1\n@ .", "1\n[ ."):
            self.check_text(text)

    def test_many_short_lines(self):
        self.check_text("\n" * 49999)
        self.check_text("0" + "\nA " * 16000)
        self.check_text("10000" + "\nA" * 20000)

    def test_strings_that_are_nested_deep(self):
        self.check_text("(" * 49999)
        self.check_text("(not " * 9000 + "A" + ")" * 4900)

    def test_just_the_texts_of_plans_are_read(self):
        plans = {}
        for size in range(3):
            rows = [row for many in range(size + 1) for row in itertools.combinations(range(size), many)]
            for one, other in itertools.product([None] + rows, repeat=2):
                plan = Plan(size, tuple((name, row) for name, row in (("A", one), ("B", other)) if row is not None))
                plans[plan.text] = plan
        found = {}
        for length in range(7):
            for first, *signs in itertools.product("012", *["\nAB .#"] * length):
                text = first + "".join(signs)
                try:
                    found[text] = Plan.read(text)
                except InvalidText as wrong:
                    self.assertIs(wrong.given, text)
        self.assertEqual(found, {text: plan for text, plan in plans.items() if len(text) <= 7})
        for text, plan in plans.items():
            self.assertEqual(Plan.read(text), plan)


if __name__ == "__main__":
    unittest.main()
