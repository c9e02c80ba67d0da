"""Readings: to which stands of a machine plans alone lead, whatever the answers to their ticks will be."""

from spansieve.walks import live_ways, reached

# The number of the reading without stands: no plan leads there.
NOWHERE = 0

# The number of the reading before the first tick.
START = 1

# How many readings there may be for each stand of a machine, and besides.
FOR_EACH = 5
BESIDES = 1000


class Readings:
    """The sets of stands that are come to, each with a number, and the steps between them.

    All stands of a set can still become good; each plan that goes on from here goes on from just one of them. If there
    are too many sets, `full` is true, and nothing else that is told holds.
    """

    def __init__(self, made):
        ways = live_ways(made, made.names)
        self.letters = list(range(len(ways[0])))
        self._ways = ways
        self.full = False
        self._room = FOR_EACH * made.many + BESIDES
        self._good = {stand: True for stand in made.good}
        self._sets = [(), (0,)]
        self._numbers = {(): NOWHERE, (0,): START}
        self._answered = {}
        self._onward = {}

    def answered(self, number):
        """Return for each letter the pair of the readings behind a tick with it, if its answer is 0 and if it is 1."""
        if number not in self._answered:
            rows = [([], []) for _ in self.letters]
            for stand in self._sets[number]:
                for row, pairs in zip(rows, self._ways[stand]):
                    for truth, target in pairs:
                        row[truth].append(target)
            self._answered[number] = [(self._number(zeros), self._number(ones)) for zeros, ones in rows]
        return self._answered[number]

    def onward(self, number):
        """Return for each letter the reading behind a tick with it."""
        if number not in self._onward:
            # No stand is come to with both answers: the plan would have two of them.
            self._onward[number] = [self._number(list(self._sets[zero] + self._sets[one]))
                                   for zero, one in self.answered(number)]
        return self._onward[number]

    def is_good(self, number):
        """Tell whether the line can end here."""
        return any([stand in self._good for stand in self._sets[number]])

    def known(self):
        """Return the list of all readings of plans, that before the first tick first."""
        return reached([START], lambda number: self.onward(number))

    def _number(self, stands):
        """Return the number of the reading with these stands."""
        row = tuple(sorted(set(stands)))
        if row not in self._numbers:
            if len(self._sets) == self._room:
                self.full = True
                return NOWHERE
            self._numbers[row] = len(self._sets)
            self._sets.append(row)
        return self._numbers[row]
