"""Looking: how far ahead and how far back one must look to be sure of an answer."""

from spansieve.errors import InvalidNumber, NotASieve
from spansieve.kinds import is_integer_from
from spansieve.machines import machine
from spansieve.sieves import Sieve
from spansieve.walks import first_letters, live_ways, plan_of

# The greatest number that may be asked about.
MOST_AHEAD = 1000

# The answers that two plans give at a tick.
SAME = ((0, 0), (1, 1))
OTHER = ((0, 1), (1, 0))


def ahead(sieve):
    """Return the least number that is enough ahead, None if there is none."""
    made = machine(sieve)
    ways = live_ways(made, made.names)
    return _least_enough(_lasting_ahead(ways))


def unsure(sieve, number):
    """Return two plans and a tick that show that a number is not enough ahead, None if it is enough."""
    if not isinstance(sieve, Sieve):
        raise NotASieve(sieve)
    if not is_integer_from(number, 0, MOST_AHEAD):
        raise InvalidNumber(number)
    made = machine(sieve)
    ways = live_ways(made, made.names)
    lasting = _lasting_ahead(ways)
    for stand, letter, pair in _splits(ways):
        if _lasts(lasting[pair], number):
            start = _letters_to(ways, 0, {stand: True})
            shared, ends = _shared_letters(ways, lasting, pair, number)
            good = {end: True for end in made.good}
            known = start + [letter] + shared
            first, last = [plan_of(made.names, known + _letters_to(ways, end, good)) for end in ends]
            return first, last, len(start)
    return None


def back(sieve):
    """Return the least number that is enough back, None if there is none."""
    made = machine(sieve)
    ways = live_ways(made, made.names)
    sources = _sources(ways)
    times = _times(ways)
    ends = [(one, other) for one in made.good for other in made.good if one < other and times[one] & times[other]]
    ends.extend([(stand, stand) for stand in range(len(ways))])
    # Behind the last tick at which two answers differ the plans are the same, and so are the answers.
    agreeing = _reached(ends, lambda pair: _pairs_before(sources, times, pair, SAME))
    last = [before for pair in agreeing for before in _pairs_before(sources, times, pair, OTHER)]
    return _least_enough(_lasting(last, lambda pair: _pairs_before(sources, times, pair, SAME + OTHER)))


def _least_enough(lasting):
    """Return the least number of ticks that is enough, from how many more ticks pairs of stands can last."""
    if not lasting:
        return 0
    longest = list(lasting.values())
    return None if None in longest else 1 + max(longest)


def _lasts(most, number):
    """Tell whether what lasts for so many ticks (None: without end) lasts for a number of them."""
    return most is None or most >= number


def _lasting(starts, lead):
    """Return for each pair that can be come to from the starts in how many steps one can go on at most.

    None if there is no end to it. The function `lead` tells the pairs to which a step leads from a pair.
    """
    lasting = {}
    entered = {}
    waiting = list(starts)
    while waiting:
        pair = waiting[-1]
        if pair in lasting:
            waiting.pop()
        elif pair in entered:
            waiting.pop()
            # A pair that was entered and is not done yet has led here: this is a round.
            longest = [lasting.get(target) for target in entered[pair]]
            entered[pair] = ()
            lasting[pair] = None if None in longest else max([-1] + longest) + 1
        else:
            entered[pair] = lead(pair)
            waiting.extend([target for target in entered[pair] if target not in entered])
    return lasting


def _reached(starts, lead):
    """Return the list of all pairs that can be come to from the starts."""
    known = {pair: True for pair in starts}
    waiting = list(known)
    reached = []
    while waiting:
        pair = waiting.pop()
        reached.append(pair)
        for target in lead(pair):
            if target not in known:
                known[target] = True
                waiting.append(target)
    return reached


def _splits(ways):
    """Return the triples of a stand, a letter and a pair of stands to which the letter leads with both answers."""
    return [(stand, letter, (targets[0][1], targets[1][1]))
            for stand, row in enumerate(ways) for letter, targets in enumerate(row) if len(targets) == 2]


def _lasting_ahead(ways):
    """Return for each pair of stands that other answers at one tick lead to how long it can go on."""
    letters = list(range(len(ways[0])))
    starts = [pair for _, _, pair in _splits(ways)]
    return _lasting(starts, lambda pair: [after for letter in letters for after in _pairs_after(ways, pair, letter)])


def _pairs_after(ways, pair, letter):
    """Return the pairs of stands to which a letter leads from a pair, with any answers."""
    return [(one, other) for _, one in ways[pair[0]][letter] for _, other in ways[pair[1]][letter]]


def _shared_letters(ways, lasting, pair, number):
    """Return a row of so many letters on which a pair of stands can go on, and the pair to which they lead."""
    letters = []
    while len(letters) < number:
        letter, pair = _lasting_step(ways, lasting, pair, number - len(letters) - 1)
        letters.append(letter)
    return letters, pair


def _lasting_step(ways, lasting, pair, number):
    """Return a letter and the pair to which it leads, from which one can go on for a number of ticks."""
    for letter in range(len(ways[0])):
        for target in _pairs_after(ways, pair, letter):
            if _lasts(lasting[target], number):
                return letter, target
    return None


def _letters_to(ways, start, wanted):
    """Return the first row of letters that leads from a stand to a wanted one."""
    letters = len(ways[0])
    return first_letters(start, letters, lambda stand, letter: [target for _, target in ways[stand][letter]],
                         lambda stand: stand in wanted)


def _sources(ways):
    """Return for each stand and letter the pair of the lists of stands from which the answers lead here."""
    sources = [[([], []) for _ in letters] for letters in ways]
    for stand, row in enumerate(ways):
        for letter, targets in enumerate(row):
            for truth, target in targets:
                sources[target][letter][truth].append(stand)
    return sources


def _times(ways):
    """Return for each stand the numbers of ticks after which one can be there, as the bits of an integer.

    From the first stands on that come again, all goes on as it did before.
    """
    times = [0] * len(ways)
    stands = (0,)
    known = {}
    while stands not in known:
        for stand in stands:
            times[stand] |= 1 << len(known)
        known[stands] = True
        stands = tuple(sorted(set([target for at in stands for targets in ways[at] for _, target in targets])))
    return times


def _pairs_before(sources, times, pair, answers):
    """Return the pairs of stands, at the same tick, from which one letter and two such answers lead to a pair."""
    found = []
    for ones, others in zip(sources[pair[0]], sources[pair[1]]):
        for truth, other_truth in answers:
            for one in ones[truth]:
                for other in others[other_truth]:
                    if one != other and times[one] & times[other]:
                        found.append((one, other) if one < other else (other, one))
    return found
