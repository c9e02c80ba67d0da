"""Books: sieves under words, and wishes about them that always hold."""

from spansieve.errors import InUse, InvalidName, InvalidNumber, InvalidWish, NothingToUndo, NotKept, UnknownName
from spansieve.kinds import is_integer_from, is_word
from spansieve.machines import machine
from spansieve.wishes import is_wish, shown_against, words_in


class Page:
    """What a book holds behind a change: sieves under words, a row of wishes, and the page before it.

    A page is never changed, so to go back is to open an earlier one again.
    """

    def __init__(self, sieves, asked, number, earlier):
        self.sieves = sieves
        self.asked = asked
        self.number = number
        self.earlier = earlier


class Book:
    """Sieves under words, and wishes about them."""

    def __init__(self):
        self.page = Page({}, (), 0, None)

    @property
    def words(self):
        """The rising row of the words."""
        return tuple(sorted(list(self.page.sieves)))

    @property
    def wishes(self):
        """The row of the wishes."""
        return self.page.asked

    @property
    def changes(self):
        """How many changes can be taken back."""
        return self.page.number

    def put(self, word, sieve):
        """Put a sieve under a word."""
        if not is_word(word):
            raise InvalidName(word)
        # All functions that judge sieves raise what is raised here; behind it none of them raises anything.
        machine(sieve)
        sieves = dict(self.page.sieves)
        sieves[word] = sieve
        for index, wish in enumerate(self.page.asked):
            # The others held before, and nothing has changed for them.
            if word in words_in(wish):
                _check(index, wish, sieves)
        self._turn(sieves, self.page.asked)

    def drop(self, word):
        """Take the sieve under a word away."""
        if word not in self:
            raise UnknownName(word)
        for index, wish in enumerate(self.page.asked):
            if word in words_in(wish):
                raise InUse(index)
        sieves = dict(self.page.sieves)
        del sieves[word]
        self._turn(sieves, self.page.asked)

    def wish(self, wish):
        """Add a wish."""
        if not is_wish(wish):
            raise InvalidWish(wish)
        for word in words_in(wish):
            if word not in self:
                raise UnknownName(word)
        _check(len(self.page.asked), wish, self.page.sieves)
        self._turn(self.page.sieves, self.page.asked + (wish,))

    def lift(self, index):
        """Take a wish away."""
        asked = self.page.asked
        if not is_integer_from(index, 0, len(asked) - 1):
            raise InvalidNumber(index)
        self._turn(self.page.sieves, asked[:index] + asked[index + 1:])

    def undo(self):
        """Take back the last change that stands."""
        if self.page.earlier is None:
            raise NothingToUndo()
        self.page = self.page.earlier

    def trial(self):
        """Return what makes a `with` block a trial: the book is as it was if the block ends with an exception."""
        return Trial(self)

    def tried(self, deed):
        """Return what a deed returns for the book, in such a block."""
        with self.trial() as book:
            return deed(book)

    def _turn(self, sieves, asked):
        """Open a new page."""
        self.page = Page(sieves, asked, self.page.number + 1, self.page)

    def __contains__(self, x):
        return isinstance(x, str) and x in self.page.sieves

    def __getitem__(self, at):
        if not isinstance(at, str) or at not in self.page.sieves:
            raise UnknownName(at)
        return self.page.sieves[at]

    def __iter__(self):
        raise TypeError("a book is asked for its words, and not gone over")


class Held:
    """The page with which a block began, and what the block around it holds."""

    def __init__(self, page, outer):
        self.page = page
        self.outer = outer


class Trial:
    """Opens the page with which a block began again if the block ends with an exception."""

    def __init__(self, book):
        self.book = book
        self.held = None

    def __enter__(self):
        # Blocks of the same trial may stand within one another: the innermost one ends first.
        self.held = Held(self.book.page, self.held)
        return self.book

    def __exit__(self, kind, value, trace):
        book = self.book
        if kind is not None:
            book.page = self.held.page
        self.held = self.held.outer
        return False


def _check(index, wish, sieves):
    """Raise an error if a wish does not hold for sieves under words."""
    shown = shown_against(wish, sieves)
    if shown is not None:
        raise NotKept(index, shown[0])
