"""Point 8: which strings are texts of sieves, and at most how many parts, names and how deep."""

import re
import unittest

from second_way import ALL_HEADS, BINARY
from spansieve.errors import InvalidText, WrongValue
from spansieve.sieves import Sieve
from values import INTEGERS, ODD, Case, nested

NUMBER = "[0-6]"
HEAD = (rf"(?:not|move (?:-[1-6]|{NUMBER})|grid [2-6]|(?:pad|trim) {NUMBER} {NUMBER}"
        rf"|(?:fill|short|long|first|last) {NUMBER})")

SAMPLES = ("A", "Z", "none", "all", "(not A)", "(and A B)", "(move -6 A)", "(move 0 A)", "(pad 1 2 A)", "(grid 2 A)",
           "(or (fill 3 A) (less all B))", "(held (trim 0 6 A) none)", "(not (not (short 4 A)))")


def is_text(text):
    """Tell whether a string is built as a text of a sieve, by putting a name in the place of what is one."""
    if "\n" in text or "@" in text:
        return False
    text = re.sub(r"(?<=[ (])(?:[A-Z]|none|all)(?=[ )])", "@", f" {text} ")[1:-1]
    while True:
        shorter = re.sub(rf"\({HEAD} @\)|\((?:{'|'.join(BINARY)}) @ @\)", "@", text)
        if shorter == text:
            return text == "@"
        text = shorter


def inside_of(heads, inner="A"):
    """Return the text of a sieve with these heads, each around the next one."""
    return "".join(f"({head} " for head in heads) + inner + ")" * len(heads)


class TextCase(Case):
    def check_text(self, text):
        self.assertEqual(Sieve(text).text, text)
        self.assertEqual(Sieve(text=text).text, text)

    def check_none(self, text):
        self.check_raises(InvalidText, WrongValue, text, Sieve, text)
        self.check_raises(InvalidText, WrongValue, text, Sieve, text=text)


class TextsTest(TextCase):
    def test_names_and_words_without_operands(self):
        for text in "ABCDEFGHIJKLMNOPQRSTUVWXYZ":
            self.check_text(text)
        for text in ("none", "all"):
            self.check_text(text)

    def test_each_word_with_each_number(self):
        for head in ALL_HEADS:
            self.check_text(f"({head} A)")
        for word in BINARY:
            self.check_text(f"({word} A B)")
            self.check_text(f"({word} none all)")
            self.check_text(f"({word} A A)")

    def test_samples(self):
        for text in SAMPLES:
            self.assertTrue(is_text(text))
            self.check_text(text)

    def test_numbers_out_of_the_range_of_their_word(self):
        for word in ("fill", "short", "long", "first", "last"):
            for number in (-6, -1, 7, 10, 66, 10**39, -(10**39)):
                self.check_none(f"({word} {number} A)")
        for number in (-8, -7, 7, 8, 12, 60, 10**39, -(10**39)):
            self.check_none(f"(move {number} A)")
        for number in (-2, -1, 0, 1, 7, 8, 22, 10**39):
            self.check_none(f"(grid {number} A)")
        for word in ("pad", "trim"):
            for numbers in ("7 0", "0 7", "-1 0", "0 -1", "7 7", "10 1", "1 10"):
                self.check_none(f"({word} {numbers} A)")

    def test_numbers_that_are_written_in_another_way(self):
        for word in ("fill", "short", "long", "first", "last", "move"):
            for number in ("00", "01", "06", "-0", "+0", "+1", "+6", "--1", "- 1", "1.0", "1.", "0x1", "1_0", "a", "A", "",
                           "\u0663", "\xb2", "\uff13", "-01", "-06", "1e0", "one", "None", "(1)", "'1'"):
                self.check_none(f"({word} {number} A)")
        for number in ("02", "+2", "2.0", "\u0662", "-2"):
            self.check_none(f"(grid {number} A)")
        for numbers in ("01 1", "1 01", "+1 1", "1 +1", "1,1", "1, 1", "11", "1-1", "(1 1)"):
            self.check_none(f"(pad {numbers} A)")
            self.check_none(f"(trim {numbers} A)")

    def test_other_numbers_of_numbers_and_operands(self):
        for text in ("(fill A)", "(fill 1 1 A)", "(move A)", "(move 1 1 A)", "(pad 1 A)", "(pad A)", "(pad 1 1 1 A)",
                     "(trim 1 A)", "(grid A)", "(grid 2 2 A)", "(not 1 A)", "(and 1 A B)", "(held 0 A B)", "(not)",
                     "(not A B)", "(not A A)", "(and)", "(and A)", "(and A B C)", "(meeting A)", "(fill 1)", "(fill 1 A B)",
                     "(pad 1 1)", "(fill A 1)", "(pad 1 A 1)", "(grid 2 A B)", "(1 A)", "(fill 1 2)", "(and 1 2)", "1", "-1",
                     "(none)", "(all)", "(A)", "((not A))", "()", "(none A)", "(A B)", "A B", "A A", "none all", "A 1"):
            self.check_none(text)

    def test_blanks_and_line_ends(self):
        for text in SAMPLES:
            for blank in (" ", "  ", "\n", "\t", "\r", "\r\n", "\xa0", "\x0b", "\x0c", "\u2003", "\x1c", "\x85", "\x00"):
                for at in range(len(text) + 1):
                    self.check_none(text[:at] + blank + text[at:])
            for at, sign in enumerate(text):
                if sign == " ":
                    for other in ("", "  ", "\n", "\t", "_", ",", ", ", "\xa0"):
                        self.check_none(text[:at] + other + text[at + 1:])

    def test_brackets(self):
        for text in ("(", ")", "()", ")(", "(A", "A)", "((A)", "not A", "(not A", "not A)", "(not A))", "((not A)", "[not A]",
                     "{not A}", "(not (A))", "(and (A) B)", "(and A (B))", "(and (A B))", "(and A) B", "and (A B)",
                     "(or (fill 3 A) (less all B)", "(or (fill 3 A) less all B))", "or (fill 3 A) (less all B)",
                     "(or fill 3 A less all B)", "(not not A)", "not not A", "(not (not A)", "(not) A", "(not A)(not B)"):
            self.check_none(text)

    def test_names_and_words_that_are_none(self):
        for word in ("a", "z", "AB", "AA", "Aa", "A1", "", "@", "[", "_", ".", "#", "\xc4", "\uff21", "\u0391", "None", "NONE",
                     "ALL", "All", "no", "non", "nones", "al", "alls", "any", "true", "x"):
            self.check_none(word)
            self.check_none(f"(not {word})")
            self.check_none(f"(and {word} A)")
            self.check_none(f"(and A {word})")
        for word in ("Not", "NOT", "no", "nott", "xor", "a", "A", "none", "all", "widen", "-", "~", "&", ""):
            self.check_none(f"({word} A)")
            self.check_none(f"({word} A B)")
            self.check_none(f"({word} 2 A)")

    def test_what_is_no_string(self):
        for text in ODD + INTEGERS + (b"A", ["A"], ("(not A)",), nested(15), Sieve("A"), Sieve):
            self.check_none(text)

    def test_strings_that_are_nested_deep(self):
        for many in (8, 12, 100, 1000, 4000, 8000):
            self.check_none("(not " * many + "A" + ")" * many)
            self.check_none("(and A " * many + "A" + ")" * many if many < 5000 else "(" * many)
            self.check_none("(" * many + "A" + ")" * many)
            self.check_none("(not " * many)
            self.check_none(")" * many)
            self.check_none("(not" * many + "A" + ")" * many)
        for text in ("(" * 49999, ")" * 49999, "A" * 49999, "A " * 24999, "not " * 12499, " " * 49999, "\n" * 49999,
                     "(not " * 8300 + "A" + ")" * 8300, "(and A A) " * 4900, "(fill " + "1" * 49000 + " A)"):
            self.check_none(text)

    def test_all_strings_next_to_samples(self):
        signs = "AaB1 ()-n"
        for text in SAMPLES:
            others = set()
            for at in range(len(text) + 1):
                others.update(text[:at] + sign + text[at:] for sign in signs)
                others.update(text[:at] + sign + text[at + 1:] for sign in signs)
                others.add(text[:at] + text[at + 1:])
                others.add(text[:at] + text[at + 1:at + 2] + text[at:at + 1] + text[at + 2:])
            for other in sorted(others):
                with self.subTest(other):
                    if is_text(other):
                        self.check_text(other)
                    else:
                        self.check_none(other)


class LimitsTest(TextCase):
    def test_seven_deep_and_one_more(self):
        self.check_text(inside_of(["not"] * 6))
        self.check_none(inside_of(["not"] * 7))
        self.check_text(inside_of(["and A", "not", "fill 1", "not", "or B", "pad 1 1"]))
        self.check_none(inside_of(["and A", "not", "fill 1", "not", "or B", "pad 1 1", "not"]))
        self.check_text(f"(and A {inside_of(['not'] * 5)})")
        self.check_none(f"(and A {inside_of(['not'] * 6)})")
        self.check_text(f"(and {inside_of(['not'] * 5)} A)")
        self.check_none(f"(and {inside_of(['not'] * 6)} A)")
        self.check_text(inside_of(["move 1"] * 6, "none"))
        self.check_none(inside_of(["move 1"] * 7, "all"))

    def test_twelve_parts_and_one_more(self):
        eleven = "(or (or (or (or (or A A) A) A) A) A)"
        self.check_text(eleven)
        self.assertEqual(len(Sieve(eleven).parts), 11)
        twelve = "(or (or (or (or (or A A) A) A) A) (not A))"
        self.check_text(twelve)
        self.assertEqual(len(Sieve(twelve).parts), 12)
        self.check_none("(or (or (or (or (or A A) A) A) (not A)) (not A))")
        self.check_text("(or (and (not A) (not A)) (and (not A) (not (not A))))")
        self.check_none("(or (and (not A) (not (not A))) (and (not A) (not (not A))))")
        self.check_none("(or (and (and A A) (and A A)) (and (and A A) (and A A)))")

    def test_three_names_and_one_more(self):
        self.check_text("(or A (or B C))")
        self.check_text("(or X (or Y (or Z (or X (or Y Z)))))")
        self.check_text("(or A (or B (or C (or none all))))")
        self.check_none("(or A (or B (or C D)))")
        self.check_none("(or (or A B) (or C D))")
        self.check_none("(or D (or C (or B A)))")
        self.check_none("(or A (or B (or A (or C (or B Z)))))")


if __name__ == "__main__":
    unittest.main()
