"""Sieves: each tells for a plan a set of ticks of its line."""

from spansieve.errors import InvalidNumber, InvalidText, NotAPlan, NotASieve
from spansieve.kinds import is_integer_from
from spansieve.operations import answer
from spansieve.plans import Plan
from spansieve.texts import names_in, operands_of, read_steps, replaced, texts_of


class Sieve:
    """A sieve, made of its text."""

    def __init__(self, text):
        steps = read_steps(text) if isinstance(text, str) else None
        if steps is None:
            raise InvalidText(text)
        self._text = text
        self._steps = steps

    @property
    def text(self):
        """The text of the sieve."""
        return self._text

    @property
    def names(self):
        """The rising row of its names."""
        return names_in(self._steps)

    @property
    def parts(self):
        """The row of its parts, as sieves; the first one is the sieve itself."""
        return tuple([Sieve(text) for text in texts_of(self._steps)])

    def run(self, plan):
        """Return the rising row of the ticks in its answer for a plan."""
        return tuple([tick for tick, truth in enumerate(self._truths(plan)) if truth])

    def show(self, plan):
        """Return the marks of its answer for a plan."""
        return "".join(["#" if truth else "." for truth in self._truths(plan)])

    def with_part(self, index, other):
        """Return the sieve with another one in the place of the part with this index."""
        if not is_integer_from(index, 0, len(self._steps) - 1):
            raise InvalidNumber(index)
        if not isinstance(other, Sieve):
            raise NotASieve(other)
        return Sieve(texts_of(replaced(self._steps, index, other._steps))[0])

    def _truths(self, plan):
        """Return for each tick of a plan 1 if it is in the answer, and 0 if it is not."""
        if not isinstance(plan, Plan):
            raise NotAPlan(plan)
        rows = {"none": [0] * plan.size, "all": [1] * plan.size}
        for name in self.names:
            marked = {tick: True for tick in plan.ticks(name)}
            rows[name] = [1 if tick in marked else 0 for tick in range(plan.size)]
        waiting = []
        # From the last step back the answers of operands are there before they are needed.
        for word, numbers in reversed(list(self._steps)):
            if word in rows:
                waiting.append(rows[word])
            else:
                one = waiting.pop()
                two = waiting.pop() if operands_of(word) == 2 else one
                waiting.append(answer(word, numbers, one, two))
        return waiting[0]

    def __and__(self, other):
        if not isinstance(other, Sieve):
            raise NotASieve(other)
        return Sieve(f"(and {self._text} {other._text})")

    def __or__(self, other):
        if not isinstance(other, Sieve):
            raise NotASieve(other)
        return Sieve(f"(or {self._text} {other._text})")

    def __sub__(self, other):
        if not isinstance(other, Sieve):
            raise NotASieve(other)
        return Sieve(f"(less {self._text} {other._text})")

    def __invert__(self):
        return Sieve(f"(not {self._text})")

    def __eq__(self, other):
        return isinstance(other, Sieve) and self._text == other._text

    def __str__(self):
        return str(self._text)

    def __repr__(self):
        return f"Sieve({len(self._steps)} parts)"
