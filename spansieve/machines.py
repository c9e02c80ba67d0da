"""Machines: what tells for all plans at once which answers are the right ones."""

from spansieve.errors import InvalidTicks, NotAPlan, NotASieve, TooMany
from spansieve.joining import OF_A_NAME, joined
from spansieve.kinds import are_ticks, is_name
from spansieve.limits import MOST_STANDS
from spansieve.plans import Plan
from spansieve.sieves import Sieve
from spansieve.texts import operands_of, read_steps, texts_of


class Machine:
    """A machine that reads for each tick in which sets it is and whether it is in the answer."""

    def __init__(self, names, moves, good):
        self._names = names
        self._moves = moves
        self._good = good

    @property
    def names(self):
        """The rising row of the names."""
        return self._names

    @property
    def many(self):
        """The number of stands."""
        return len(self._moves)

    @property
    def moves(self):
        """For each stand the row of the stands to which the letters lead from it."""
        return self._moves

    @property
    def good(self):
        """The rising row of the good stands."""
        return self._good

    def accepts(self, plan, ticks):
        """Tell whether these ticks are the answer for a plan."""
        if not isinstance(plan, Plan):
            raise NotAPlan(plan)
        if not are_ticks(ticks, plan.size):
            raise InvalidTicks(ticks)
        letters = [0] * plan.size
        for row in [plan.ticks(name) for name in self._names] + [ticks]:
            letters = [2 * letter for letter in letters]
            for tick in row:
                letters[tick] += 1
        stand = 0
        for letter in letters:
            stand = self._moves[stand][letter]
        return stand in self._good

    def __eq__(self, other):
        return (isinstance(other, Machine) and self._names == other._names and self._moves == other._moves
                and self._good == other._good)

    def __repr__(self):
        return f"Machine({len(self._moves)} stands)"


def machine(sieve):
    """Return the least machine of a sieve."""
    return machines_of_parts(sieve)[sieve.text]


def machines_of_parts(sieve):
    """Return a dict with the least machine of each part of a sieve, by its text."""
    if not isinstance(sieve, Sieve):
        raise NotASieve(sieve)
    made = {}
    if machine_among(read_steps(sieve.text), made) is None:
        raise TooMany(MOST_STANDS)
    return made


def machine_among(steps, made):
    """Return the least machine of a sieve, given by its steps, None if it is too great.

    The dict `made` holds for texts what was told of them before, and gets what is told of the parts of this sieve; it
    holds machines of operations, too.
    """
    waiting = []
    # From the last part back the operands are there before they are needed.
    for (word, numbers), text in reversed(list(zip(steps, texts_of(steps)))):
        operands = [waiting.pop() for _ in range(operands_of(word))]
        part = ((word, numbers),)
        for operand, _ in operands:
            part += operand
        if text not in made:
            made[text] = _made_of(part, operands, made)
        waiting.append((part, made[text]))
    return waiting[0][1]


def _made_of(part, operands, made):
    """Return the machine of a part from the steps and the machines of its operands; None if one is too great."""
    word, numbers = part[0]
    if not operands:
        return _plain(word)
    if None in [operand for _, operand in operands]:
        return None
    shift = _common_shift(word, operands)
    if shift:
        # What is moved alike is joined first: the machine of a move has twice as many stands for each tick.
        inner = machine_among(_moved_back(part, operands, shift), made)
        if inner is not None:
            return _joined("move", (shift,), [inner], made)
    return _joined(word, numbers, [operand for _, operand in operands], made)


def _common_shift(word, operands):
    """Return by how many ticks both operands of an operation are moved alike that joins them tick by tick, 0 if not."""
    heads = [steps[0] for steps, _ in operands]
    if word not in ("and", "or", "less") or [head for head, _ in heads] != ["move", "move"]:
        return 0
    first, second = [numbers[0] for _, numbers in heads]
    if first * second <= 0:
        return 0
    return min(first, second) if first > 0 else max(first, second)


def _moved_back(part, operands, shift):
    """Return the steps of an operation on what two operands are if they are moved by less."""
    inner = part[:1]
    for steps, _ in operands:
        number = steps[0][1][0] - shift
        inner += ((("move", (number,)),) if number else ()) + steps[1:]
    return inner


def _plain(word):
    """Return the machine of a name, of `none` or of `all`."""
    if is_name(word):
        return Machine((word,), OF_A_NAME, (0,))
    return Machine((), ((0, 1), (1, 1)) if word == "none" else ((1, 0), (1, 1)), (0,))


def _joined(word, numbers, operands, made):
    """Return the machine for what an operation makes of its operands, None if it is too great."""
    names = tuple(sorted(set([name for operand in operands for name in operand.names])))
    found = joined(word, numbers, operands, names, made)
    return None if found is None else Machine(names, found[0], found[1])
