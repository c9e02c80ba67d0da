"""Looking: how far ahead and how far back one must look to be sure of an answer."""

from spansieve.errors import InvalidNumber, NotASieve
from spansieve.kinds import is_integer_from
from spansieve.least import kinds_of, numbered
from spansieve.machines import machine
from spansieve.pairs import ahead_by_pairs, back_by_pairs, least_enough, unsure_by_pairs
from spansieve.readings import NOWHERE, START, Readings
from spansieve.sieves import Sieve
from spansieve.walks import first_letters, lasting, lasting_letters, lasts, plan_of, reached

# The greatest number that may be asked about.
MOST_AHEAD = 1000


def ahead(sieve):
    """Return the least number that is enough ahead, None if there is none."""
    made = machine(sieve)
    readings = Readings(made)
    most = _lasting_ahead(readings, _splits(readings))
    return ahead_by_pairs(made) if readings.full else least_enough(most)


def unsure(sieve, number):
    """Return two plans and a tick that show that a number is not enough ahead, None if it is enough."""
    if not isinstance(sieve, Sieve):
        raise NotASieve(sieve)
    if not is_integer_from(number, 0, MOST_AHEAD):
        raise InvalidNumber(number)
    made = machine(sieve)
    readings = Readings(made)
    splits = _splits(readings)
    most = _lasting_ahead(readings, splits)
    if readings.full:
        return unsure_by_pairs(made, number)
    for reading, letter, pair in splits:
        if lasts(most[pair], number):
            start = _letters_to(readings, START, lambda place: place == reading)
            shared, ends = lasting_letters(most, pair, number, lambda both: _pairs_after(readings, both))
            known = start + [letter] + shared
            first, last = [plan_of(made.names, known + _letters_to_end(readings, end)) for end in ends]
            return first, last, len(start)
    return None


def back(sieve):
    """Return the least number that is enough back, None if there is none."""
    made = machine(sieve)
    readings = Readings(made)
    known = readings.known()
    told = _answers_told(readings, known)
    if readings.full:
        return back_by_pairs(made)
    place = {reading: at for at, reading in enumerate(known)}
    moves = [[place[target] for target in readings.onward(reading)] for reading in known]
    columns = list(zip(*moves))
    groups = _same_ticks(moves)
    number = 0
    seen = {}
    # So many ticks after readings of the same tick the answers are told alike, if they are for all plans that go on.
    while not _are_told_alike(told, groups):
        key = tuple(told)
        if key in seen:
            return None
        seen[key] = True
        later = [[told[at] for at in column] for column in columns]
        told = numbered(list(zip(*later)))
        number += 1
    return number


def _splits(readings):
    """Return the triples of a reading, a letter and the pair of readings to which it leads with both answers."""
    splits = []
    known = readings.known()
    for reading in known:
        for letter, pair in enumerate(readings.answered(reading)):
            if NOWHERE not in pair:
                splits.append((reading, letter, pair))
    return splits


def _lasting_ahead(readings, splits):
    """Return for each pair of readings that other answers at one tick lead to how long both can go on alike."""
    return lasting([pair for _, _, pair in splits], lambda pair: [after for _, after in _pairs_after(readings, pair)])


def _pairs_after(readings, pair):
    """Return the pairs of a letter and the pair of readings to which it leads from a pair, where both go on."""
    both = list(zip(readings.onward(pair[0]), readings.onward(pair[1])))
    return [(letter, after) for letter, after in enumerate(both) if NOWHERE not in after]


def _letters_to(readings, start, is_wanted):
    """Return the first row of letters that leads from a reading to a wanted one."""
    return first_letters(start, len(readings.letters), lambda reading, letter: [readings.onward(reading)[letter]],
                         is_wanted)


def _letters_to_end(readings, start):
    """Return the first row of letters with which a line can end that has led to a reading."""
    return _letters_to(readings, start, lambda reading: readings.is_good(reading))


def _same_ticks(moves):
    """Return the rows of readings to which plans with the same number of ticks lead, for all these numbers.

    From the first row on that comes again, all goes on as it did before.
    """
    rows = {}
    row = (0,)
    while row not in rows:
        rows[row] = True
        row = tuple(sorted(set([target for at in row for target in moves[at]])))
    return list(rows)


def _are_told_alike(told, groups):
    """Tell whether the same is told of all readings in each of the groups."""
    for group in groups:
        first = told[group[0]]
        for at in group:
            if told[at] != first:
                return False
    return True


def _answers_told(readings, known):
    """Return for each reading a number that it shares with those behind which the next answer depends on the same.

    What the next answer depends on are the next tick and all that come behind it.
    """
    truths = [[one for _, one in readings.answered(reading)] for reading in known]
    further = reached([reading for row in truths for reading in row], lambda reading: readings.onward(reading))
    place = {reading: at for at, reading in enumerate(further)}
    moves = [[place[target] for target in readings.onward(reading)] for reading in further]
    kinds = kinds_of(moves, [readings.is_good(reading) for reading in further], len(moves))
    return numbered([tuple([kinds[place[reading]] for reading in row]) for row in truths])
