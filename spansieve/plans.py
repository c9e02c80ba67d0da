"""Plans: a line of ticks and, for some names, sets of these ticks."""

from spansieve.errors import InvalidNumber, InvalidRows, InvalidText, UnknownName
from spansieve.kinds import are_rows, is_integer_from
from spansieve.limits import MOST_TICKS


class Plan:
    """A line of ticks with a set of them for each of its names."""

    def __init__(self, size, rows=()):
        if not is_integer_from(size, 0, MOST_TICKS):
            raise InvalidNumber(size)
        if not are_rows(rows, size):
            raise InvalidRows(rows)
        self._size = size
        self._rows = rows

    @property
    def size(self):
        """The number of ticks."""
        return self._size

    @property
    def rows(self):
        """The row of the pairs of a name and its ticks."""
        return self._rows

    @property
    def names(self):
        """The rising row of the names."""
        return tuple([pair[0] for pair in self._rows])

    @property
    def text(self):
        """The number of ticks and the marks of all names, each in a line of text."""
        lines = [f"{name} {self.marks(name)}" for name in self.names]
        return "\n".join([str(self._size), *lines])

    def ticks(self, name):
        """Return the rising row of the ticks of a name."""
        # What is no string is not compared: it may call itself equal to a name.
        if isinstance(name, str):
            for pair in self._rows:
                if pair[0] == name:
                    return pair[1]
        raise UnknownName(name)

    def marks(self, name):
        """Return a string with `#` for each tick of a name and `.` for each other tick."""
        marked = {tick: True for tick in self.ticks(name)}
        return "".join(["#" if tick in marked else "." for tick in range(self._size)])

    def cut(self, size):
        """Return the plan of the first ticks, as many as `size` says."""
        if not is_integer_from(size, 0, self._size):
            raise InvalidNumber(size)
        return Plan(size, tuple([(name, _ticks_below(size, ticks)) for name, ticks in self._rows]))

    @staticmethod
    def read(text):
        """Return the plan that has this text."""
        if not isinstance(text, str):
            raise InvalidText(text)
        first, *rest = text.split("\n")
        size = _read_size(first)
        rows = tuple([(line[:1], _marked_ticks(line[2:])) for line in rest])
        if not is_integer_from(size, 0, MOST_TICKS) or not are_rows(rows, size):
            raise InvalidText(text)
        plan = Plan(size, rows)
        # The parts were read generously; only what the plan itself writes is its text.
        if plan.text != text:
            raise InvalidText(text)
        return plan

    def __eq__(self, other):
        return isinstance(other, Plan) and self._size == other._size and self._rows == other._rows

    def __str__(self):
        return str(self.text)

    def __repr__(self):
        return f"Plan({self._size} ticks)"


def _ticks_below(size, ticks):
    """Return the row of those ticks that a line of this size has."""
    return tuple([tick for tick in ticks if tick < size])


def _read_size(word):
    """Return the number that a word of digits writes, None if it is another word or too long."""
    # The length is bounded first: Python refuses to read very long numbers.
    if len(word) > len(str(MOST_TICKS)) or not word.isascii() or not word.isdigit():
        return None
    return int(word)


def _marked_ticks(marks):
    """Return the row of the ticks that are marked."""
    return tuple([tick for tick, mark in enumerate(marks) if mark == "#"])
