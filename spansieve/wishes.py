"""Wishes about the sieves of a book: which values are wishes, and what shows that one does not hold.

A wish is a row of its kind, a word, and another word or a number.
"""

from spansieve.judging import first_beyond, first_parting
from spansieve.kinds import is_integer_from, is_word
from spansieve.lengths import longest_run
from spansieve.looking import ahead, back

# The greatest number in a wish.
MOST_WISHED = 100

OF_TWO_WORDS = ("alike", "within")
OF_A_NUMBER = ("ahead", "back", "run")


def is_wish(value):
    """Tell whether a value is a wish, whether or not there are sieves under its words."""
    if not isinstance(value, tuple) or len(value) != 3:
        return False
    kind, word, rest = value
    if not isinstance(kind, str) or not is_word(word):
        return False
    if kind in OF_TWO_WORDS:
        return is_word(rest)
    return kind in OF_A_NUMBER and is_integer_from(rest, 0, MOST_WISHED)


def words_in(wish):
    """Return the row of the words of a wish."""
    kind, word, rest = wish
    return (word, rest) if kind in OF_TWO_WORDS else (word,)


def shown_against(wish, sieves):
    """Return None if a wish holds for sieves under words, otherwise a row of one: what shows that it does not."""
    kind, word, rest = wish
    one = sieves[word]
    if kind in OF_TWO_WORDS:
        other = sieves[rest]
        found = first_parting(one, other) if kind == "alike" else first_beyond(one, other)
        return None if found is None else (found,)
    number = _number_of(kind, one)
    return None if number is not None and number <= rest else (number,)


def _number_of(kind, sieve):
    """Return the number of a sieve that a kind of wishes bounds, None if there is none."""
    if kind == "ahead":
        return ahead(sieve)
    return back(sieve) if kind == "back" else longest_run(sieve)
