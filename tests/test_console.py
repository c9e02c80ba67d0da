"""Points 2, 3, 5 and 10 and the interface of spansieve/console.py."""

import random
import unittest

import second_way
from spansieve.console import Console
from spansieve.errors import InvalidText, NotASieve, TooMany, WrongValue
from spansieve.judging import first_beyond, first_parting
from spansieve.lengths import longest_gap, longest_run
from spansieve.looking import ahead, back
from spansieve.machines import machine
from spansieve.shorter import idle, shorter
from spansieve.sieves import Sieve
from values import INTEGERS, ODD, TOO_GREAT, Case, nested

QUESTIONS = ("show", "names", "stands", "ahead", "behind", "run", "gap", "idle", "shorter")
ABOUT_MACHINES = ("stands", "ahead", "behind", "run", "gap", "idle", "shorter")

# What each line about these sieves is answered, in the order of QUESTIONS, worked out by hand.
BY_HAND = {
    "A": ("A", "A", "2", "0", "0", "endless", "endless", "none", "none"),
    "none": ("none", "none", "2", "0", "0", "0", "0", "none", "none"),
    "all": ("all", "none", "2", "0", "0", "endless", "0", "none", "none"),
    "(not all)": ("(not all)", "none", "2", "0", "0", "0", "0", "none", "none"),
    "(and A (or A B))": ("(and A (or A B))", "A B", "2", "0", "0", "endless", "endless", "B",
                         "A ; (and A A) ; (and A all)"),
    "(less (less Q Q) (or M Q))": ("(less (less Q Q) (or M Q))", "M Q", "2", "0", "0", "0", "0", "M Q", None),
    "(first 0 (or C (or A B)))": ("(first 0 (or C (or A B)))", "A B C", "2", "0", "0", "0", "0", "A B C", None),
    "(long 4 A)": ("(long 4 A)", "A", None, "4", "4", "4", "endless", "none", "none"),
    "(not (long 4 A))": ("(not (long 4 A))", "A", None, "4", "4", "endless", "4", "none", "none"),
    "(move -3 A)": ("(move -3 A)", "A", None, "3", "0", "endless", "endless", "none", "none"),
    "(inside Z A)": ("(inside Z A)", "A Z", None, "endless", "endless", "endless", "endless", "none", "none"),
    "(meeting A A)": ("(meeting A A)", "A", "2", "0", "0", "endless", "endless", "none", "A"),
    "(short 3 all)": ("(short 3 all)", "none", "7", "2", "0", "endless", "0", "none", "none"),
}

NO_LINES = (
    "", " ", "Show", "show ", " show", "show A", "shows", "names A", "names ", "stands 1", "ahead 0", "back A", "back ", "run 3",
    "take", "take ", "take  A", "take A ", " take A", "take a", "take A B", "take (not A", "take (not  A)", "take (foo A)",
    "take\nA", "take A\n", "take none none", "alike", "alike ", "alike A B", "alike a", "alike  A", "alike A\n", "within", "within ",
    "within A ", "within (and A)", "Take A", "TAKE A", "A", "none", "(not A)", "show\n", "show\nshow", "idle A", "shorter A",
    "gap 1", "unsure 1", "quit", "takes A", "alike: A", "ok", "take (and A (and B (and C D)))", "take (move 7 A)",
    "take " + "(not " * 7 + "A" + ")" * 7, "take " + "(" * 40000, "show" * 10000)


class ConsoleTest(Case):
    def test_example_of_the_document(self):
        console = Console(Sieve("(fill 1 (short 2 A))"))
        self.assertEqual(list(map(console.say, [
            "show", "alike (short 2 (fill 1 A))", "within (fill 1 A)", "ahead", "run", "take (and A (or A B))", "shorter", "idle",
            "stands", "back", "back"])),
            ["(fill 1 (short 2 A))", "3/A #.# 0", "yes", "2", "endless", "ok", "A ; (and A A) ; (and A all)", "B", "2", "ok",
             "none"])

    def test_answers_worked_out_by_hand(self):
        for text, answers in BY_HAND.items():
            console = Console(sieve=Sieve(text))
            for line, expected in zip(QUESTIONS, answers):
                told = console.say(line=line)
                self.assertIs(type(told), str)
                if expected is not None:
                    self.assertEqual(told, expected, (text, line))
                self.assertEqual(console.say(line), told, "asked again alike")

    def test_answers_are_those_of_the_functions(self):
        chance = random.Random(61)
        number = {None: "endless"}
        for _ in range(60):
            sieve = Sieve(second_way.made_up(chance, "ABC"[:chance.randint(1, 3)], chance.randint(1, 5)))
            other = Sieve(second_way.made_up(chance, "ABC"[:chance.randint(1, 3)], chance.randint(1, 3)))
            console = Console(sieve)
            try:
                machine(sieve)
            except TooMany:
                continue
            told = [console.say(line) for line in QUESTIONS]
            numbers = [ahead(sieve), back(sieve), longest_run(sieve), longest_gap(sieve)]
            self.assertEqual(told, [
                sieve.text, " ".join(sieve.names) or "none", str(machine(sieve).many),
                *[number.get(value, str(value)) for value in numbers], " ".join(idle(sieve)) or "none",
                " ; ".join(map(str, shorter(sieve))) or "none"])
            for word, deed in (("alike", first_parting), ("within", first_beyond)):
                self.check_comparison(console.say(f"{word} {other.text}"), deed(sieve, other))
            self.assertEqual([console.say(line) for line in QUESTIONS], told)

    def check_comparison(self, told, found):
        if found is None:
            self.assertEqual(told, "yes")
        else:
            self.assertNotIn("\n", told)
            self.assertEqual(told, "/".join(found[0].text.split("\n")) + " " + str(found[1]))

    def test_comparisons_with_plans_of_all_names(self):
        console = Console(Sieve("(and A (and B Q))"))
        self.assertEqual(console.say("alike none"), "1/A #/B #/Q # 0")
        self.assertEqual(console.say("within B"), "yes")
        self.assertEqual(console.say("within C"), "1/A #/B #/C ./Q # 0")
        self.assertEqual(console.say("alike (and Q (and B A))"), "yes")
        console.say("take all")
        self.assertEqual([console.say("alike none"), console.say("within none"), console.say("alike all")], ["1 0", "1 0", "yes"])
        console.say("take (move 3 all)")
        self.assertEqual([console.say("within none"), console.say("alike all")], ["4 3", "1 0"])

    def test_take_and_back(self):
        console = Console(Sieve("A"))
        self.assertEqual(console.say("back"), "none")
        for text in ("B", "(not B)", "none", "none"):
            self.assertEqual(console.say("take " + text), "ok")
            self.assertEqual(console.say("show"), text)
        seen = []
        while console.say("back") == "ok":
            seen.append(console.say("show"))
        self.assertEqual(seen, ["none", "(not B)", "B", "A"])
        self.assertEqual([console.say("back"), console.say("show"), console.say("take C"), console.say("take D"),
                          console.say("back"), console.say("take B"), console.say("back"), console.say("show"),
                          console.say("back"), console.say("back"), console.say("show")],
                         ["none", "A", "ok", "ok", "ok", "ok", "ok", "C", "ok", "none", "A"])

    def test_consoles_do_not_meet(self):
        sieve = Sieve("A")
        before = dict(vars(sieve))
        one, other = Console(sieve), Console(sieve)
        one.say("take B")
        self.assertEqual([one.say("show"), other.say("show"), other.say("back"), one.say("back")], ["B", "A", "none", "ok"])
        self.assertTrue(one and vars(sieve) == before)

    def test_what_is_no_line(self):
        console = Console(Sieve("A"))
        console.say("take B")
        for given in ODD + INTEGERS + NO_LINES + (nested(15), Sieve("A"), ("show",), ["show"], b"show", b"take A"):
            self.check_raises(InvalidText, WrongValue, given, console.say, given)
            self.check_raises(InvalidText, WrongValue, given, console.say, line=given)
            self.assertEqual(console.say("show"), "B")
        self.assertEqual([console.say("back"), console.say("show"), console.say("back")], ["ok", "A", "none"])

    def test_what_is_no_sieve(self):
        for given in ODD + INTEGERS + ("", "A", "(not A)", nested(15), Sieve, [Sieve("A")], Console(Sieve("A"))):
            self.check_raises(NotASieve, WrongValue, given, Console, given)
            self.check_raises(NotASieve, WrongValue, given, Console, sieve=given)

    def test_sieves_that_are_too_great(self):
        for text in TOO_GREAT:
            console = Console(Sieve(text))
            for line in ABOUT_MACHINES + ("alike A", "within A", "alike " + text):
                self.check_too_many(console.say, line)
            self.assertEqual([console.say("show"), console.say("names"), console.say("back")],
                             [text, " ".join(Sieve(text).names), "none"])
            self.assertEqual([console.say("take A"), console.say("take " + text), console.say("show")], ["ok", "ok", text])
            self.check_too_many(console.say, "stands")
            self.assertEqual([console.say("back"), console.say("stands")], ["ok", "2"])
            self.check_too_many(console.say, line="alike " + text)
            self.check_too_many(console.say, "within " + text)
            self.assertEqual([console.say("show"), console.say("back"), console.say("show")], ["A", "ok", text])
        console = Console(Sieve("(and A (move -6 (ended A B)))"))
        self.assertEqual([console.say("stands"), console.say("run"), console.say("idle")], ["1000", "endless", "none"])


if __name__ == "__main__":
    unittest.main()
