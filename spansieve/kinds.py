"""Tells of which kind a value is that somebody handed over."""


def is_integer_from(value, least, most):
    """Tell whether a value is an integer from `least` to `most`."""
    # True and False are ints to Python, but no integers here.
    return isinstance(value, int) and not isinstance(value, bool) and least <= value <= most


def is_name(value):
    """Tell whether a value is a letter from A to Z."""
    return isinstance(value, str) and len(value) == 1 and "A" <= value <= "Z"


def is_word(value):
    """Tell whether a value is a string of one to eight letters from a to z."""
    return isinstance(value, str) and 1 <= len(value) <= 8 and all(["a" <= letter <= "z" for letter in value])


def is_rising(row):
    """Tell whether each element of a row, tuple or list, is greater than the one to its left."""
    return all([left < right for left, right in zip(row, row[1:])])


def are_ticks(value, size):
    """Tell whether a value is a rising row of ticks of a line of this size."""
    if not isinstance(value, tuple):
        return False
    return all([is_integer_from(tick, 0, size - 1) for tick in value]) and is_rising(value)


def are_rows(value, size):
    """Tell whether a value is a row of rising names with rising ticks of a line of this size."""
    if not isinstance(value, tuple):
        return False
    for pair in value:
        if not isinstance(pair, tuple) or len(pair) != 2:
            return False
        if not is_name(pair[0]) or not are_ticks(pair[1], size):
            return False
    return is_rising([pair[0] for pair in value])
