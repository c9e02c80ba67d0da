"""The texts of sieves, and the steps that they are made of.

The *steps* of a sieve are a row with a pair for each of its parts, in their order: its word and the row of its numbers.
As each word has its number of operands, the steps alone tell the text.
"""

from spansieve.kinds import is_name
from spansieve.limits import MOST_DEEP, MOST_NAMES, MOST_NUMBER, MOST_PARTS

# For each word of an operation: how many numbers and how many operands it has, and its least number.
WORDS = {
    "and": (0, 2, 0),
    "or": (0, 2, 0),
    "less": (0, 2, 0),
    "not": (0, 1, 0),
    "move": (1, 1, -6),
    "pad": (2, 1, 0),
    "trim": (2, 1, 0),
    "fill": (1, 1, 0),
    "short": (1, 1, 0),
    "long": (1, 1, 0),
    "first": (1, 1, 0),
    "last": (1, 1, 0),
    "meeting": (0, 2, 0),
    "inside": (0, 2, 0),
    "begun": (0, 2, 0),
    "ended": (0, 2, 0),
    "held": (0, 2, 0),
    "grid": (1, 1, 2),
}


def operands_of(word):
    """Return how many operands a word has: none if it is a name, `none` or `all`."""
    return WORDS[word][1] if word in WORDS else 0


def read_steps(text):
    """Return the steps of the sieve with this text, None if it is not the text of a sieve."""
    words = text.replace("(", " ").replace(")", " ").split()
    # Strings of any length and depth end here: a part has a word and two numbers at most.
    if len(words) > 3 * MOST_PARTS:
        return None
    steps = _steps_of(words)
    shapes = _shapes(steps) if steps is not None else None
    # The words were read generously; only what is written of them is the text.
    if shapes is None or shapes[0][0] != text:
        return None
    too_many = len(steps) > MOST_PARTS or len(names_in(steps)) > MOST_NAMES
    return None if too_many or shapes[0][1] > MOST_DEEP else steps


def texts_of(steps):
    """Return the list of the texts of all parts."""
    return [text for text, _, _ in _shapes(steps)]


def lengths_of(steps):
    """Return for each part how many parts it has, itself included."""
    return [many for _, _, many in _shapes(steps)]


def replaced(steps, index, other):
    """Return the steps that come about if those of another sieve stand in the place of the part with this index."""
    return steps[:index] + other + steps[index + lengths_of(steps)[index]:]


def names_in(steps):
    """Return the rising row of the names in the steps of a sieve."""
    return tuple(sorted(set([word for word, _ in steps if is_name(word)])))


def _steps_of(words):
    """Return the steps that words and numbers make in this order, None if one of them stands where it must not."""
    steps = []
    at = 0
    while at < len(words):
        word = words[at]
        if word not in WORDS and word not in ("none", "all") and not is_name(word):
            return None
        many = WORDS[word][0] if word in WORDS else 0
        numbers = tuple([_number(word, digits) for digits in words[at + 1:at + 1 + many]])
        if len(numbers) < many or None in numbers:
            return None
        steps.append((word, numbers))
        at += 1 + many
    return tuple(steps)


def _number(word, digits):
    """Return the number that is written here, None if the word cannot have it."""
    for number in range(WORDS[word][2], MOST_NUMBER + 1):
        if str(number) == digits:
            return number
    return None


def _shapes(steps):
    """Return for each part its text, how deep it is and how many parts it has; None if these are not one sieve's."""
    shapes = []
    waiting = []
    # Operands stand behind their word: from the last step back each of them is there before it is needed.
    for word, numbers in reversed(list(steps)):
        at = len(waiting) - operands_of(word)
        if at < 0:
            return None
        shape = _shape(word, numbers, waiting[at:][::-1])
        waiting = waiting[:at] + [shape]
        shapes = [shape] + shapes
    return shapes if len(waiting) == 1 else None


def _shape(word, numbers, inner):
    """Return the text, the depth and the number of parts of a part, from those of its operands."""
    if not inner:
        return word, 1, 1
    words = [word] + [str(number) for number in numbers] + [text for text, _, _ in inner]
    depth = 1 + max([deep for _, deep, _ in inner])
    return "(" + " ".join(words) + ")", depth, 1 + sum([many for _, _, many in inner])
