"""Points 2 to 5 and 10 and the interface of spansieve/books.py."""

import random
import unittest

from spansieve.books import Book
from spansieve.errors import (InUse, InvalidName, InvalidNumber, InvalidWish, NotASieve, NothingToUndo, NotKept, TooMany,
                              UnknownName, WrongMoment, WrongValue)
from spansieve.judging import first_beyond, first_parting
from spansieve.lengths import longest_run
from spansieve.looking import ahead, back
from spansieve.plans import Plan
from spansieve.sieves import Sieve
from values import INTEGERS, ODD, STRINGS, TOO_GREAT, Case, nested

WORDS = ("a", "z", "clean", "abcdefgh", "zzzzzzzz")
NO_WORDS = ("", "A", "abcdefghi", "a b", "a1", "a_", "aB", " a", "a ", "0", "-", "a" * 49999)
WISHES = (("alike", "a", "b"), ("within", "a", "a"), ("ahead", "a", 0), ("back", "abcdefgh", 100), ("run", "z", 7))
NO_WISHES = (
    (), ("alike",), ("alike", "a"), ("alike", "a", "b", "c"), ["alike", "a", "b"], ("Alike", "a", "b"), ("alike", "a", "B"),
    ("alike", "A", "b"), ("alike", "a", 1), ("alike", 1, "a"), ("within", "a", ""), ("within", "a", "abcdefghi"),
    ("within", "a", None), ("within", "a", b"b"), ("ahead", "a", "b"), ("ahead", "a", -1), ("ahead", "a", 101),
    ("ahead", "a", True), ("ahead", "a", False), ("ahead", "a", None), ("ahead", "a", "1"), ("back", "a", -1),
    ("back", "a", 101), ("back", "a", 10**39), ("back", "", 1), ("back", "a1", 1), ("run", "a", -1), ("run", "a", 101),
    ("run", ("a",), 1), ("run", "a", (1,)), ("gap", "a", 1), ("", "a", 1), (None, "a", 1), (("run",), "a", 1),
    ("run", 1, "a"), (1, "a", "run"), (("run", "a", 1),), "run", "alike a b", ("run", "a", [1]), (["run"], "a", 1))


def contents(book):
    """Return all that a book shows."""
    return book.words, book.wishes, book.changes, [book[word] for word in book.words]


def filled():
    """Return a book with three words, two wishes and five changes."""
    book = Book()
    book.put("clean", Sieve("(short 2 (fill 1 A))"))
    book.put("wide", Sieve("(pad 1 1 A)"))
    book.put("bare", Sieve("none"))
    book.wish(("within", "clean", "wide"))
    book.wish(("ahead", "clean", 3))
    return book


class BookCase(Case):
    def check_moment(self, wrong, deed, *args, **more):
        """Ask for an error of a wrong moment; return it."""
        with self.assertRaises(wrong) as held:
            deed(*args, **more)
        self.assertIs(type(held.exception), wrong)
        self.assertIsInstance(held.exception, WrongMoment)
        return held.exception

    def check_not_kept(self, index, shown, deed, *args, **more):
        error = self.check_moment(NotKept, deed, *args, **more)
        self.assertEqual((error.index, error.shown, type(error.index)), (index, shown, int))


class ExampleTest(BookCase):
    def test_example_of_the_document(self):
        book = Book()
        self.assertIsNone(book.put("clean", Sieve("(short 2 (fill 1 A))")))
        self.assertIsNone(book.put("wide", Sieve("(pad 1 1 A)")))
        self.assertIsNone(book.wish(("within", "clean", "wide")))
        self.assertIsNone(book.wish(("ahead", "clean", 3)))
        self.assertEqual([book.words, book.wishes, book.changes, "wide" in book, book["wide"].text], [
            ("clean", "wide"), (("within", "clean", "wide"), ("ahead", "clean", 3)), 4, True, "(pad 1 1 A)"])
        before = contents(book)
        self.check_not_kept(1, 5, book.put, "clean", Sieve("(short 6 A)"))
        self.assertEqual(contents(book), before)

    def test_a_new_book(self):
        book = Book()
        self.assertEqual(contents(book), ((), (), 0, []))
        self.assertTrue(book)
        self.assertTrue(book == book and not book != book)
        self.assertTrue(book != Book() and not book == Book())
        for value in (None, (), {}, "a", 0):
            self.assertTrue(book != value and not book == value)


class WordsTest(BookCase):
    def test_put_by_place_and_by_name(self):
        book = Book()
        for word in WORDS:
            self.assertIsNone(book.put(word, Sieve("A")))
            self.assertIsNone(book.put(sieve=Sieve("B"), word=word))
            self.assertEqual(book[word], Sieve("B"))
        self.assertEqual(book.words, tuple(sorted(WORDS)))
        self.assertEqual(book.changes, 2 * len(WORDS))
        sieve = Sieve("(fill 2 Q)")
        book.put("a", sieve)
        self.assertIs(book["a"], sieve)

    def test_what_is_no_word(self):
        book = filled()
        before = contents(book)
        for given in ODD + INTEGERS + NO_WORDS + (nested(15), Sieve("A"), ("clean",), ["clean"], b"clean"):
            for sieve in (Sieve("A"), None, Sieve(TOO_GREAT[0]), Sieve("(short 6 A)")):
                self.check_raises(InvalidName, WrongValue, given, book.put, given, sieve)
                self.check_raises(InvalidName, WrongValue, given, book.put, sieve=sieve, word=given)
            self.assertIs(given in book, False)
            for deed in (lambda: book[given], lambda: book.drop(given), lambda: book.drop(word=given)):
                self.assertIs(self.check_moment(UnknownName, deed).given, given)
        self.assertEqual(contents(book), before)

    def test_what_is_no_sieve(self):
        book = filled()
        before = contents(book)
        for given in ODD + STRINGS + INTEGERS + ("(not A)", nested(15), Sieve, [Sieve("A")], book):
            for word in ("clean", "other"):
                self.check_raises(NotASieve, WrongValue, given, book.put, word, given)
                self.check_raises(NotASieve, WrongValue, given, book.put, sieve=given, word=word)
        self.assertEqual(contents(book), before)

    def test_sieves_that_are_too_great(self):
        book = filled()
        before = contents(book)
        for text in TOO_GREAT:
            for word in ("clean", "other"):
                self.check_too_many(book.put, word, Sieve(text))
                self.check_too_many(book.put, sieve=Sieve(text), word=word)
        self.assertEqual(contents(book), before)
        book.put("great", Sieve("(and A (move -6 (ended A B)))"))
        self.assertEqual(book["great"].text, "(and A (move -6 (ended A B)))")

    def test_words_that_are_not_in_the_book(self):
        book = filled()
        before = contents(book)
        for word in ("other", "cleaner", "clea", "a"):
            self.assertIs(word in book, False)
            for deed in (lambda: book[word], lambda: book.drop(word)):
                self.assertIs(self.check_moment(UnknownName, deed).given, word)
        self.assertEqual(contents(book), before)
        self.assertEqual(self.check_moment(UnknownName, lambda: book[0]).given, 0)
        with self.assertRaises(TypeError):
            list(book)

    def test_drop(self):
        book = filled()
        self.assertIsNone(book.drop("bare"))
        self.assertEqual([book.words, book.changes, "bare" in book], [("clean", "wide"), 6, False])
        self.assertIs(self.check_moment(UnknownName, book.drop, "bare").given, "bare")
        before = contents(book)
        self.assertEqual(self.check_moment(InUse, book.drop, "clean").index, 0)
        self.assertEqual(self.check_moment(InUse, book.drop, word="wide").index, 0)
        self.assertEqual(contents(book), before)
        book.lift(0)
        self.assertEqual(self.check_moment(InUse, book.drop, "clean").index, 0)
        self.assertIsNone(book.drop(word="wide"))
        book.lift(0)
        book.drop("clean")
        self.assertEqual(contents(book), ((), (), 10, []))


class WishesTest(BookCase):
    def test_each_kind_of_wishes_that_hold(self):
        book = Book()
        for word, text in (("a", "A"), ("b", "(not (not A))"), ("c", "(and A B)"), ("d", "(move -3 (long 4 A))"),
                           ("e", "(pad 3 2 A)")):
            book.put(word, Sieve(text))
        wishes = (("alike", "a", "b"), ("alike", "b", "a"), ("alike", "c", "c"), ("within", "c", "a"), ("within", "a", "b"),
                  ("within", "c", "c"), ("ahead", "a", 0), ("ahead", "e", 3), ("ahead", "e", 100), ("back", "e", 2),
                  ("run", "d", 4), ("run", "d", 100), ("back", "c", 0), ("back", "c", 100), ("ahead", "a", 0))
        for index, wish in enumerate(wishes):
            self.assertIsNone(book.wish(wish=wish) if index % 2 else book.wish(wish))
        self.assertEqual(book.wishes, wishes)
        self.assertEqual(book.changes, 5 + len(wishes))

    def test_each_kind_of_wishes_that_do_not_hold(self):
        book = filled()
        book.put("held", Sieve("(held A B)"))
        book.put("some", Sieve("(inside A B)"))
        before = contents(book)
        for wish, deed in ((("alike", "clean", "wide"), first_parting), (("alike", "some", "held"), first_parting),
                           (("within", "wide", "clean"), first_beyond), (("within", "held", "bare"), first_beyond)):
            shown = deed(book[wish[1]], book[wish[2]])
            self.assertEqual(tuple(map(type, shown)), (Plan, int))
            self.check_not_kept(2, shown, book.wish, wish)
        for word, number, deed in (("ahead", 1, ahead), ("ahead", 0, ahead), ("back", 1, back), ("run", 100, longest_run)):
            self.check_not_kept(2, deed(book["clean"]), book.wish, (word, "clean", number))
        self.check_not_kept(2, None, book.wish, wish=("back", "held", 100))
        self.check_not_kept(2, None, book.wish, ("ahead", "some", 100))
        self.check_not_kept(2, None, book.wish, ("run", "held", 0))
        self.assertEqual(contents(book), before)

    def test_numbers_beside_the_right_one(self):
        book = Book()
        book.put("e", Sieve("(pad 3 2 (first 1 (short 2 A)))"))
        book.put("f", Sieve("(long 5 A)"))
        for kind, word, number in (("ahead", "e", 4), ("back", "e", 3), ("run", "f", 5)):
            self.check_not_kept(len(book.wishes), number, book.wish, (kind, word, number - 1))
            book.wish((kind, word, number))
            book.wish((kind, word, number + 1))

    def test_what_is_no_wish(self):
        book = filled()
        before = contents(book)
        for given in ODD + STRINGS + INTEGERS + NO_WISHES + (nested(15), Sieve("A"), tuple(ODD[:3]), tuple(ODD[3:6]),
                                                             ("ahead", "clean", ODD[12]), (ODD[12], "clean", 5),
                                                             (ODD[13], "clean", 5), ("alike", ODD[12], ODD[12])):
            self.check_raises(InvalidWish, WrongValue, given, book.wish, given)
            self.check_raises(InvalidWish, WrongValue, given, book.wish, wish=given)
        self.assertEqual(contents(book), before)

    def test_wishes_about_words_that_are_not_in_the_book(self):
        book = filled()
        before = contents(book)
        for wish, given in ((("alike", "x", "clean"), "x"), (("alike", "clean", "x"), "x"), (("within", "y", "x"), "y"),
                            (("ahead", "x", 0), "x"), (("back", "x", 100), "x"), (("run", "cleans", 3), "cleans")):
            self.assertEqual(self.check_moment(UnknownName, book.wish, wish).given, given)
        self.assertEqual(contents(book), before)
        for wish in WISHES:
            self.assertEqual(self.check_moment(UnknownName, Book().wish, wish).given, wish[1])

    def test_lift(self):
        book = filled()
        before = contents(book)
        for given in ODD + STRINGS + (-1, 2, 10**39, -(10**39), nested(15)):
            self.check_raises(InvalidNumber, WrongValue, given, book.lift, given)
            self.check_raises(InvalidNumber, WrongValue, given, book.lift, index=given)
        self.check_raises(InvalidNumber, WrongValue, INTEGERS[0], Book().lift, INTEGERS[0])
        self.assertEqual(contents(book), before)
        self.assertIsNone(book.lift(0))
        self.assertEqual([book.wishes, book.changes], [(("ahead", "clean", 3),), 6])
        self.check_not_kept(0, 5, book.put, "clean", Sieve("(short 6 A)"))
        self.assertIsNone(book.lift(index=0))
        book.put("clean", Sieve("(short 6 A)"))
        self.assertEqual([book.wishes, book.changes], [(), 8])

    def test_wishes_are_asked_in_their_order(self):
        book = Book()
        book.put("a", Sieve("(first 2 A)"))
        book.put("b", Sieve("A"))
        for wish in (("within", "a", "b"), ("run", "a", 3), ("ahead", "a", 5), ("back", "a", 6), ("alike", "b", "b")):
            book.wish(wish)
        self.check_not_kept(0, first_beyond(Sieve("(not A)"), Sieve("A")), book.put, "a", Sieve("(not A)"))
        self.check_not_kept(1, None, book.put, "a", Sieve("A"))
        self.check_not_kept(1, 4, book.put, "a", Sieve("(long 4 A)"))
        self.check_not_kept(2, 8, book.put, "a", Sieve("(first 3 (short 6 (short 4 (and A (move -3 A)))))"))
        self.check_not_kept(0, first_beyond(Sieve("(first 2 A)"), Sieve("none")), book.put, "b", Sieve("none"))
        self.assertEqual([book.changes, book["a"].text, book["b"].text], [7, "(first 2 A)", "A"])

    def test_two_wishes_with_one_word(self):
        book = Book()
        book.put("a", Sieve("(pad 1 1 A)"))
        book.wish(("within", "a", "a"))
        book.wish(("alike", "a", "a"))
        book.put("a", Sieve("(held A B)"))
        self.assertEqual(self.check_moment(InUse, book.drop, "a").index, 0)
        book.lift(0)
        self.assertEqual(self.check_moment(InUse, book.drop, "a").index, 0)

    def test_behind_each_change_all_wishes_hold(self):
        chance = random.Random(17)
        texts = ("A", "(fill 1 A)", "(pad 1 1 A)", "(short 2 A)", "(long 3 A)", "none", "(and A B)", "(held A B)", "all")
        book = Book()
        kept = 0
        for _ in range(250):
            word = chance.choice("abc")
            before = contents(book)
            deed = chance.choice((
                lambda: book.put(word, Sieve(chance.choice(texts))), lambda: book.drop(word), lambda: book.lift(0),
                lambda: book.wish((chance.choice(("ahead", "back", "run")), word, chance.randint(0, 5))), book.undo,
                lambda: book.wish((chance.choice(("alike", "within")), word, chance.choice("abc")))))
            try:
                deed()
                kept += 1
            except (NotKept, InUse, UnknownName, InvalidNumber, NothingToUndo):
                self.assertEqual(contents(book), before)
            self.check_wishes(book)
        self.assertGreater(kept, 60)

    def check_wishes(self, book):
        for kind, word, rest in book.wishes:
            sieve = book[word]
            if kind in ("alike", "within"):
                deed = first_parting if kind == "alike" else first_beyond
                self.assertIsNone(deed(sieve, book[rest]))
            else:
                told = {"ahead": ahead, "back": back, "run": longest_run}[kind](sieve)
                self.assertTrue(told is not None and told <= rest)


class UndoTest(BookCase):
    def test_each_change_is_taken_back(self):
        book = Book()
        seen = [contents(book)]
        for deed in (lambda: book.put("a", Sieve("A")), lambda: book.put("a", Sieve("(and A B)")),
                     lambda: book.put("b", Sieve("A")), lambda: book.wish(("within", "a", "b")),
                     lambda: book.put("a", Sieve("(short 2 A)")), lambda: book.wish(("ahead", "a", 1)),
                     lambda: book.lift(0), lambda: book.drop("b"), lambda: book.put("c", Sieve("none")),
                     lambda: book.put("c", Sieve("none"))):
            deed()
            seen.append(contents(book))
            self.assertEqual(book.changes, len(seen) - 1)
        while len(seen) > 1:
            self.assertEqual(contents(book), seen.pop())
            self.assertIsNone(book.undo())
        self.assertEqual(contents(book), seen[0])
        self.check_moment(NothingToUndo, book.undo)
        self.assertEqual(contents(book), seen[0])

    def test_only_changes_that_stand(self):
        book = Book()
        self.check_moment(NothingToUndo, book.undo)
        book.put("a", Sieve("A"))
        book.put("b", Sieve("B"))
        book.undo()
        self.check_moment(UnknownName, book.drop, "b")
        self.check_not_kept(0, None, book.wish, ("run", "a", 3))
        book.put("c", Sieve("C"))
        book.undo()
        book.undo()
        self.assertEqual(contents(book), ((), (), 0, []))
        self.check_moment(NothingToUndo, book.undo)


class Stop(BaseException):
    """What ends a block, and is no error."""


class TrialTest(BookCase):
    def test_a_block_that_ends_well(self):
        book = filled()
        with book.trial() as held:
            self.assertIs(held, book)
            book.put("other", Sieve("A"))
            book.lift(1)
        self.assertEqual([book.words, book.changes, book.wishes],
                         [("bare", "clean", "other", "wide"), 7, (("within", "clean", "wide"),)])

    def test_a_block_that_ends_with_an_exception(self):
        for wrong in (ValueError("x"), KeyError(1), NotKept(0, None), Stop(), KeyboardInterrupt()):
            for deed in (lambda book: book.put("clean", Sieve("none")), lambda book: book.drop("bare"), Book.undo,
                         lambda book: [book.undo() for _ in range(5)], lambda book: book.lift(0), lambda book: None):
                book = filled()
                before = contents(book)
                with self.assertRaises(type(wrong)) as held:
                    with book.trial():
                        deed(book)
                        book.put("late", Sieve("B"))
                        raise wrong
                self.assertIs(held.exception, wrong)
                self.assertEqual(contents(book), before)
                # What was taken back in the block can be taken back again.
                for _ in range(5):
                    book.undo()
                self.assertEqual(contents(book), ((), (), 0, []))

    def test_one_trial_for_several_blocks(self):
        book = filled()
        trial = book.trial()
        book.put("early", Sieve("A"))
        for number in range(3):
            before = contents(book)
            with self.assertRaises(ValueError):
                with trial:
                    book.drop("bare")
                    raise ValueError
            self.assertEqual(contents(book), before)
            with trial as held:
                self.assertIs(held, book)
                book.put("abc"[number], Sieve("B"))
            self.assertEqual(book.changes, 7 + number)

    def test_one_trial_for_blocks_within_one_another(self):
        for ends in ((True, True), (True, False), (False, True), (False, False)):
            for one_trial in (True, False):
                book = filled()
                first = book.trial()
                second = first if one_trial else book.trial()
                seen = [contents(book)]
                try:
                    with first:
                        book.put("x", Sieve("A"))
                        seen.append(contents(book))
                        try:
                            with second:
                                book.put("y", Sieve("A"))
                                seen.append(contents(book))
                                if ends[0]:
                                    raise ValueError
                        except ValueError:
                            pass
                        self.assertEqual(contents(book), seen[1] if ends[0] else seen[2])
                        book.put("w", Sieve("A"))
                        seen.append(contents(book))
                        if ends[1]:
                            raise KeyError
                except KeyError:
                    pass
                self.assertEqual(contents(book), seen[0] if ends[1] else seen[3])

    def test_blocks_three_deep_and_again(self):
        book = filled()
        trial = book.trial()
        for _ in range(2):
            before = contents(book)
            with self.assertRaises(ValueError):
                with trial:
                    book.put("x", Sieve("A"))
                    with trial:
                        book.put("y", Sieve("A"))
                        with trial:
                            book.put("w", Sieve("A"))
                    self.assertEqual(book.changes, before[2] + 3)
                    raise ValueError
            self.assertEqual(contents(book), before)

    def test_trials_of_two_books(self):
        one, other = filled(), filled()
        before = contents(one)
        with self.assertRaises(ValueError):
            with one.trial():
                one.put("x", Sieve("A"))
                with other.trial():
                    other.put("x", Sieve("A"))
                raise ValueError
        self.assertEqual([contents(one), other.changes], [before, 6])

    def test_tried(self):
        book = filled()
        self.assertEqual(book.tried(lambda held: (held is book, held.put("x", Sieve("A")), held.changes)), (True, None, 6))
        self.assertEqual(book.tried(deed=lambda held: held.words), ("bare", "clean", "wide", "x"))
        before = contents(book)

        def wrong(held):
            held.drop("bare")
            held.tried(lambda inner: inner.put("y", Sieve("A")))
            held.put("clean", Sieve("(short 6 A)"))

        self.check_not_kept(1, 5, book.tried, wrong)
        self.assertEqual(contents(book), before)
        with self.assertRaises(TooMany):
            book.tried(lambda held: [held.undo(), held.put("x", Sieve(TOO_GREAT[0]))])
        self.assertEqual(contents(book), before)
        self.assertIsNone(book.tried(Book.undo))
        self.assertEqual(book.changes, 5)


if __name__ == "__main__":
    unittest.main()
