"""Players: sieves that are played tick by tick, each answer told as soon as it is sure."""

from spansieve.errors import Ended, InvalidName
from spansieve.kinds import is_name, is_rising
from spansieve.machines import machine
from spansieve.walks import live_ways


class Player:
    """Plays a sieve.

    All ways that its machine can still have gone are kept: an answer is sure if all of them have it. Each stand on them
    is kept but once for a tick, and it is dropped with the steps that led to it when no way goes on from it.
    """

    def __init__(self, sieve):
        made = machine(sieve)
        self._sieve = sieve
        self._names = made.names
        self._ways = live_ways(made, made.names)
        self._good = {stand: True for stand in made.good}
        self._over = False
        # For each number of told ticks the stands behind them, with the pairs of a stand and an answer that led there.
        self._steps = [{0: []}]
        # For each told tick: from each stand the number of steps that go on, and the numbers of both answers.
        self._onward = []
        self._answers = []
        self._waiting = {}

    @property
    def sieve(self):
        """The sieve that is played."""
        return self._sieve

    @property
    def told(self):
        """The number of ticks that were told."""
        return len(self._answers)

    @property
    def unsure(self):
        """The rising row of the told ticks whose answers are not sure."""
        return tuple(list(self._waiting))

    def tell(self, names):
        """Tell that the next tick is in the sets of just these names; return the pairs that are sure now."""
        if self._over:
            raise Ended()
        if not _are_names(names, self._names):
            raise InvalidName(names)
        letter = 0
        for name in self._names:
            letter = 2 * letter + int(name in names)
        tick = len(self._answers)
        lost = self._go_on(letter)
        touched = self._drop(tick, lost)
        return self._sure(touched + [tick])

    def end(self):
        """Tell that the line is over; return the pairs that are sure now."""
        if self._over:
            raise Ended()
        self._over = True
        lost = [stand for stand in self._steps[-1] if stand not in self._good]
        touched = self._drop(len(self._answers), lost)
        return self._sure(touched)

    def _go_on(self, letter):
        """Take all steps with a letter; return the stands from which none is left."""
        stands = self._steps[-1]
        led = {}
        onward = {}
        answers = [0, 0]
        for stand in stands:
            pairs = self._ways[stand][letter]
            if pairs:
                onward[stand] = len(pairs)
            for truth, target in pairs:
                answers[truth] += 1
                led.setdefault(target, []).append((stand, truth))
        self._waiting[len(self._answers)] = True
        self._steps.append(led)
        self._onward.append(onward)
        self._answers.append(answers)
        return [stand for stand in stands if stand not in onward]

    def _drop(self, many, stands):
        """Drop stands behind so many ticks, and all that led to them alone; return the ticks that lost a step."""
        touched = {}
        waiting = [(many, stand) for stand in stands]
        while waiting:
            level, stand = waiting.pop()
            steps = self._steps[level].pop(stand)
            for source, truth in steps:
                tick = level - 1
                touched[tick] = True
                self._answers[tick][truth] -= 1
                self._onward[tick][source] -= 1
                if not self._onward[tick][source]:
                    del self._onward[tick][source]
                    waiting.append((tick, source))
        return list(touched)

    def _sure(self, ticks):
        """Return the rising row of those ticks whose answers are sure and were not before, with their answers."""
        found = []
        for tick in sorted(ticks):
            zeros, ones = self._answers[tick]
            if tick in self._waiting and (not zeros or not ones):
                del self._waiting[tick]
                found.append((tick, ones > 0))
        return tuple(found)


def _are_names(value, names):
    """Tell whether a value is a rising row of some of these names."""
    if not isinstance(value, tuple):
        return False
    return all([is_name(name) and name in names for name in value]) and is_rising(value)
