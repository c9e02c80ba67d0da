"""Circuits: what sieves do at a tick, as diagrams.

What is asked are the names of a tick, and the binary digits of the states of both sides of it for each operation (see
operations.py). Each digit has a place for this tick and, just behind it, one for the next tick. The states before the
next tick follow from those before this tick; the states after this tick follow from those after the next one.
"""

from spansieve.diagrams import Diagrams
from spansieve.operations import OPERATIONS, TRUTHS, reaches
from spansieve.texts import names_in, operands_of, texts_of


class Circuit:
    """The circuit of some sieves, given by their steps.

    `answers` has the diagram of the answer at this tick for the text of each part; `before` and `after` hold pairs of a
    place and the diagram for the digit: for what is before, the digit of the next tick, for what is after, of this one.
    """

    def __init__(self, rows_of_steps):
        operations = _operations(rows_of_steps)
        self._places = _places(operations, rows_of_steps)
        self.diagrams = Diagrams()
        self.before = []
        self.after = []
        self.inputs = []
        self.answers = {"none": 0, "all": 1}
        for steps in rows_of_steps:
            for name in names_in(steps):
                self.inputs.append(self._places[name, 0, 0])
                self.answers[name] = self._truth(self._places[name, 0, 0])
        for text, (word, numbers, operands) in operations.items():
            self._add(text, word, numbers, operands)

    def _add(self, text, word, numbers, operands):
        """Add an operation whose operands are there."""
        carry, carry_back, verdict = OPERATIONS[word]
        most, most_back = reaches(word, numbers)
        states, states_back = _states(carry, most), _states(carry_back, most_back)
        places = [self._places[text, 0, digit] for digit in range(_digits(states))]
        places_back = [self._places[text, 1, digit] for digit in range(_digits(states_back))]
        truths = [self.answers[operands[-1]], self.answers[operands[0]]]
        digits = [self._truth(place) for place in places]
        digits_back = [self._truth(place + 1) for place in places_back]
        table = [verdict(numbers, left, one, two, right) if left in states and right in states_back else 0
                 for right in range(1 << len(digits_back)) for left in range(1 << len(digits)) for one, two in TRUTHS]
        self.answers[text] = self._asked(truths + digits + digits_back, table)
        self._carry(self.before, places, truths + digits, _carried(carry, most, states, len(digits)))
        self._carry(self.after, places_back, truths + digits_back,
                    _carried(carry_back, most_back, states_back, len(digits_back)))

    def _carry(self, side, places, tests, table):
        """Add to a side the pairs for the digits of a state."""
        for digit, place in enumerate(places):
            side.append((place, self._asked(tests, [state >> digit & 1 for state in table])))

    def _asked(self, tests, table):
        """Return the diagram for what a table tells; the last test has the highest digit of the numbers in it."""
        row = [1 if value else 0 for value in table]
        for test in tests:
            row = [self.diagrams.choice(test, row[at + 1], row[at]) for at in range(0, len(row), 2)]
        return row[0]

    def _truth(self, place):
        """Return the diagram for the truth at a place."""
        return self.diagrams.node(place, 0, 1)


def _operations(rows_of_steps):
    """Return for the text of each operation its word, numbers and texts of operands; operands come first."""
    operations = {}
    for steps in rows_of_steps:
        waiting = []
        for (word, numbers), text in reversed(list(zip(steps, texts_of(steps)))):
            operands = [waiting.pop() for _ in range(operands_of(word))]
            if operands and text not in operations:
                operations[text] = (word, numbers, operands)
            waiting.append(text)
    return operations


def _places(operations, rows_of_steps):
    """Return the places of names and digits; for each the key is a text, a side (0 for before) and a digit.

    Digits that tell of the same ticks of a name should stand side by side, lest diagrams grow. How far back a digit
    looks from here is told for what is moved; all digits of any other operation stand together.
    """
    backs = {"none": 0, "all": 0}
    rows = []
    for steps in rows_of_steps:
        for name in names_in(steps):
            backs[name] = 0
            rows.append((0, 0, 0, name, 0))
    for number, text in enumerate(operations):
        word, numbers, operands = operations[text]
        back = max([backs[operand] for operand in operands])
        backs[text] = back + numbers[0] if word == "move" else back
        carry, carry_back, _ = OPERATIONS[word]
        most, most_back = reaches(word, numbers)
        for digit in range(_digits(_states(carry, most))):
            rows.append((-back - _moved(word, digit), number + 1, -digit, text, 0))
        for digit in range(_digits(_states(carry_back, most_back))):
            rows.append((-back + _moved(word, digit), number + 1, -digit, text, 1))
    return {(text, side, -digit): 2 * at for at, (_, _, digit, text, side) in enumerate(sorted(set(rows)))}


def _moved(word, digit):
    """Return how much further from a tick a digit of the state of an operation looks than its operand does."""
    return digit + 1 if word == "move" else 0


def _states(side, most):
    """Return the states to which a side of a tick can come, as the keys of a dict."""
    states = {0: True}
    waiting = [0]
    while waiting:
        state = waiting.pop()
        for one, two in TRUTHS:
            target = side(most, state, one, two)
            if target not in states:
                states[target] = True
                waiting.append(target)
    return states


def _digits(states):
    """Return how many binary digits the states have."""
    return max(list(states)).bit_length()


def _carried(side, most, states, digits):
    """Return the table of the states that follow, for each number with so many digits and all truths of a tick."""
    return [side(most, state, one, two) if state in states else 0
            for state in range(1 << digits) for one, two in TRUTHS]
