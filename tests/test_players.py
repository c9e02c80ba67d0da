"""Points 2, 3, 5 and 10 and the interface of spansieve/players.py."""

import random
import unittest

import second_way
from spansieve.errors import Ended, InvalidName, NotASieve, WrongMoment, WrongValue
from spansieve.looking import ahead
from spansieve.players import Player
from spansieve.sieves import Sieve
from values import INTEGERS, ODD, STRINGS, TOO_GREAT, Case, nested

# Sieves of one name whose answers are settled by a few more ticks, or by none, and one that is never settled early.
OF_ONE_NAME = ("A", "none", "all", "(not A)", "(move 2 A)", "(move -2 A)", "(pad 2 1 A)", "(trim 1 2 A)", "(fill 2 A)",
               "(short 3 A)", "(long 2 A)", "(first 1 A)", "(last 2 A)", "(grid 3 A)", "(fill 1 (short 2 A))",
               "(move 1 (move -2 A))", "(not (pad 1 1 (not A)))", "(meeting all A)", "(inside all A)", "(ended A (grid 2 A))",
               "(held A (move -1 A))", "(short 2 (long 3 A))", "(last 1 (not A))", "(less (fill 2 A) A)",
               "(and A (move -1 (not A)))", "(begun (pad 1 0 A) A)", "(move -1 all)", "(short 3 all)", "(long 2 all)")
OF_TWO_NAMES = ("(and A B)", "(meeting A B)", "(inside A B)", "(begun A B)", "(ended A B)", "(held A B)",
                "(less (fill 1 A) B)", "(or (move -1 A) B)", "(held B (short 2 A))", "(less (move -1 B) (move -2 A))")


def sure_answers(text, names, line, more):
    """Return the ticks of a line and their answers that are the same for all lines of at most so many ticks more."""
    tree = second_way.tree_of(text)
    kept = None
    for size in range(more + 1):
        for rest in second_way.lines(len(names), size):
            whole = line + rest
            sets = {name: {tick for tick, letter in enumerate(whole) if letter[place]}
                    for place, name in enumerate(names)}
            ticks = second_way.ticks_of(tree, len(whole), sets)
            told = {(tick, tick in ticks) for tick in range(len(line))}
            kept = told if kept is None else kept & told
    return kept


def told_names(names, letter):
    """Return the row of those names whose truth a letter has."""
    return tuple(name for name, truth in zip(names, letter) if truth)


class PlayerCase(Case):
    def check_pairs(self, pairs):
        """Ask for a rising row of pairs of a tick and a truth."""
        self.assertIs(type(pairs), tuple)
        for pair in pairs:
            self.assertEqual((type(pair), tuple(map(type, pair))), (tuple, (int, bool)))
        self.assertEqual(list(pairs), sorted(set(pairs)))

    def play(self, text, plan):
        """Play a plan to its end; return what was told with each tick, and at the end."""
        sieve = Sieve(text)
        player = Player(sieve)
        told = []
        for tick in range(plan.size):
            names = tuple(name for name in sieve.names if tick in plan.ticks(name))
            told.append(player.tell(names))
            self.check_pairs(told[-1])
            self.assertEqual(player.told, tick + 1)
            seen = {pair[0] for pairs in told for pair in pairs}
            self.assertEqual(player.unsure, tuple(sorted(set(range(tick + 1)) - seen)))
        told.append(player.end())
        self.check_pairs(told[-1])
        self.assertEqual((player.unsure, player.told, player.sieve), ((), plan.size, sieve))
        found = [pair for pairs in told for pair in pairs]
        self.assertEqual(sorted(tick for tick, _ in found), list(range(plan.size)), "each tick is told once")
        self.assertEqual(tuple(tick for tick, truth in sorted(found) if truth), sieve.run(plan))
        return told


class TellTest(PlayerCase):
    def test_example_of_the_document(self):
        player = Player(Sieve("(short 2 A)"))
        self.assertEqual(
            [player.tell(()), player.tell(("A",)), player.tell(("A",)), player.tell(("A",)), player.tell(()),
             player.tell(("A",)), player.unsure, player.end()],
            [((0, False),), (), ((1, True), (2, True)), ((3, True),), ((4, False),), (), (5,), ((5, False),)])

    def test_by_name_and_with_other_names(self):
        player = Player(sieve=Sieve("(ended Q (or Z M))"))
        self.assertEqual([player.tell(names=("Q",)), player.tell(names=("Q", "Z")), player.tell(names=("M", "Z"))],
                         [(), (), ((0, True), (1, True), (2, False))])
        self.assertEqual([player.end(), player.unsure, player.told], [(), (), 3])

    def test_sure_as_soon_as_all_plans_agree_and_not_before(self):
        for texts, names, most, more in ((OF_ONE_NAME, "A", 5, 5), (OF_TWO_NAMES, "AB", 3, 3)):
            for text in texts:
                own = second_way.names_of(text)
                for line in second_way.lines(len(own), most):
                    player = Player(Sieve(text))
                    known = set()
                    for tick, letter in enumerate(line):
                        pairs = player.tell(told_names(own, letter))
                        self.check_pairs(pairs)
                        self.assertFalse(known & set(pairs))
                        known |= set(pairs)
                        self.assertEqual(known, sure_answers(text, own, line[:tick + 1], more), (text, line, tick))
                        self.assertEqual(player.unsure, tuple(sorted(set(range(tick + 1)) - {at for at, _ in known})))
                    known |= set(player.end())
                    self.assertEqual(known, sure_answers(text, own, line, 0), (text, line))

    def test_played_to_the_end_the_answer_is_that_of_the_sieve(self):
        chance = random.Random(9)
        for _ in range(150):
            names = "ABC"[:chance.randint(1, 3)]
            text = second_way.made_up(chance, names, chance.randint(1, 7))
            plan = second_way.plan_of(names, [[chance.random() < 0.6 for _ in names] for _ in range(chance.randint(0, 25))])
            self.play(text, plan)

    def test_no_answer_waits_for_more_ticks_than_are_enough_ahead(self):
        chance = random.Random(10)
        for text in OF_ONE_NAME + ("(pad 4 2 (trim 1 1 A))", "(fill 3 (fill 2 A))", "(move -6 (move -2 A))"):
            most = ahead(Sieve(text))
            if most is not None:
                plan = second_way.plan_of("A", [[chance.random() < 0.7] for _ in range(40)])
                for tick, pairs in enumerate(self.play(text, plan)[:-1]):
                    self.assertTrue(all(tick - at <= most for at, _ in pairs), text)

    def test_no_ticks_and_no_names(self):
        for text in ("A", "none", "all", "(meeting A B)", "(short 3 all)"):
            player = Player(Sieve(text))
            self.assertEqual([player.told, player.unsure, player.end(), player.told, player.unsure], [0, (), (), 0, ()])
        player = Player(Sieve("(short 3 all)"))
        self.assertEqual([player.tell(()), player.tell(()), player.unsure, player.tell(()), player.tell(()), player.end()],
                         [(), (), (0, 1), ((0, True), (1, True), (2, True)), ((3, True),), ()])
        player = Player(Sieve("(short 3 all)"))
        self.assertEqual([player.tell(()), player.tell(()), player.end()], [(), (), ((0, False), (1, False))])
        player = Player(Sieve("(less (move -1 (not all)) none)"))
        self.assertEqual([player.tell(()), player.tell(()), player.end()], [((0, False),), ((1, False),), ()])


class LongLineTest(PlayerCase):
    def test_lines_of_ten_thousand_ticks(self):
        for text, when in (("(meeting A B)", lambda tick: ("A", "B") if tick == 9999 else ("A",)),
                           ("(inside A B)", lambda tick: ("A",) if tick == 9999 else ("A", "B"))):
            player = Player(Sieve(text))
            for tick in range(9999):
                self.assertEqual(player.tell(when(tick)), ())
            self.assertEqual(player.unsure, tuple(range(9999)))
            truth = text == "(meeting A B)"
            self.assertEqual(player.tell(when(9999)), tuple((tick, truth) for tick in range(10000)))
            self.assertEqual([player.told, player.unsure, player.end()], [10000, (), ()])

    def test_answers_that_wait_for_the_end(self):
        player = Player(Sieve("(ended A B)"))
        for tick in range(10000):
            self.assertEqual(player.tell(("A", "B") if tick % 3 else ("A",)), ())
        self.assertEqual(player.unsure, tuple(range(10000)))
        self.assertEqual(player.end(), tuple((tick, False) for tick in range(10000)))

    def test_answers_that_are_told_on_the_way(self):
        chance = random.Random(12)
        for text in ("(fill 6 (short 3 A))", "(move -6 (move -1 A))", "(pad 6 6 (trim 2 2 A))", "(grid 6 (long 5 A))"):
            plan = second_way.plan_of("A", [[chance.random() < 0.6] for _ in range(2500)])
            self.play(text, plan)

    def test_a_sieve_with_just_as_many_stands_as_may_be(self):
        chance = random.Random(13)
        plan = second_way.plan_of("AB", [[chance.random() < 0.7, chance.random() < 0.4] for _ in range(400)])
        self.play("(and A (move -6 (ended A B)))", plan)
        self.play("(and none (and A (move -6 (ended A B))))", plan)


class ErrorsTest(PlayerCase):
    def test_what_is_no_sieve(self):
        for given in ODD + STRINGS + INTEGERS + ("(not A)", nested(15), Sieve, [Sieve("A")], Player(Sieve("A"))):
            self.check_raises(NotASieve, WrongValue, given, Player, given)
            self.check_raises(NotASieve, WrongValue, given, Player, sieve=given)

    def test_sieves_that_are_too_great(self):
        for text in TOO_GREAT:
            self.check_too_many(Player, Sieve(text))
            self.check_too_many(Player, sieve=Sieve(text))

    def test_what_is_no_rising_row_of_names_of_the_sieve(self):
        player = Player(Sieve("(meeting A C)"))
        odd = [value for value in ODD if not (type(value) is tuple and value == ("A",))]
        for given in odd + list(STRINGS + INTEGERS) + [
                ("B",), ("A", "B"), ("C", "A"), ("A", "A"), ["A"], ("A", "B", "C"), (0,), (True,), (None,), ("a",), ("",), ("AC",),
                ("A", ("C",)), (("A", "C"),), "AC", ("A", b"C"), tuple(ODD), nested(15), (object(),), {"A": True}]:
            self.check_raises(InvalidName, WrongValue, given, player.tell, given)
            self.check_raises(InvalidName, WrongValue, given, player.tell, names=given)
        self.assertEqual([player.told, player.unsure], [0, ()])
        self.assertEqual([player.tell(("A",)), player.tell(("A", "C")), player.tell(()), player.told],
                         [(), ((0, True), (1, True)), ((2, False),), 3])
        for text in ("none", "(short 3 all)"):
            self.check_raises(InvalidName, WrongValue, STRINGS[1], Player(Sieve(text)).tell, STRINGS[1])
            row = ("A",)
            self.check_raises(InvalidName, WrongValue, row, Player(Sieve(text)).tell, row)

    def test_behind_the_end(self):
        player = Player(Sieve("(short 2 A)"))
        player.tell(("A",))
        player.end()
        for deed, arguments in ((player.end, ()), (player.tell, (("A",),)), (player.tell, ((),)), (player.tell, (("B",),)),
                                (player.tell, (None,)), (player.tell, (0,))):
            for _ in range(2):
                with self.assertRaises(Ended) as held:
                    deed(*arguments)
                self.assertIs(type(held.exception), Ended)
                self.assertIsInstance(held.exception, WrongMoment)
        with self.assertRaises(Ended):
            player.tell(names=["A"])
        self.assertEqual([player.told, player.unsure, player.sieve], [1, (), Sieve("(short 2 A)")])


class ObjectTest(PlayerCase):
    def test_equal_to_itself_alone(self):
        one, other = Player(Sieve("A")), Player(Sieve("A"))
        self.assertTrue(one == one and not one != one)
        for value in (other, one.sieve, None, "A", 0, ()):
            self.assertTrue(one != value and not one == value)
        self.assertTrue(one and other)

    def test_players_of_one_sieve_do_not_meet(self):
        sieve = Sieve("(fill 1 A)")
        before = dict(vars(sieve))
        one, other = Player(sieve), Player(sieve)
        self.assertIs(one.sieve, sieve)
        self.assertEqual([one.tell(("A",)), one.tell(()), one.tell(("A",))], [((0, True),), (), ((1, True), (2, True))])
        self.assertEqual([other.told, other.unsure, other.tell(()), other.end()], [0, (), ((0, False),), ()])
        self.assertEqual([one.end(), one.told], [(), 3])
        self.assertEqual(vars(sieve), before)


if __name__ == "__main__":
    unittest.main()
