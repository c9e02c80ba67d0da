"""Pairs of stands of a machine: looking where readings would be too many.

There are at most as many pairs as stands times stands, but seldom as few as there are readings.
"""

from spansieve.walks import lasting, lasting_letters, lasts, letters_to, live_ways, longest, plan_of, reached

# The answers that two plans give at a tick.
SAME = ((0, 0), (1, 1))
OTHER = ((0, 1), (1, 0))


def ahead_by_pairs(made):
    """Return the least number that is enough ahead for the sieve of a machine, None if there is none."""
    ways = live_ways(made, made.names)
    return least_enough(_lasting_ahead(ways))


def unsure_by_pairs(made, number):
    """Return two plans and a tick that show that a number is not enough ahead, None if it is enough."""
    ways = live_ways(made, made.names)
    most = _lasting_ahead(ways)
    for stand, letter, pair in _splits(ways):
        if lasts(most[pair], number):
            start = letters_to(ways, 0, {stand: True})
            shared, ends = lasting_letters(most, pair, number, lambda place: _pairs_after(ways, place))
            good = {end: True for end in made.good}
            known = start + [letter] + shared
            first, last = [plan_of(made.names, known + letters_to(ways, end, good)) for end in ends]
            return first, last, len(start)
    return None


def back_by_pairs(made):
    """Return the least number that is enough back for the sieve of a machine, None if there is none."""
    ways = live_ways(made, made.names)
    sources = _sources(ways)
    times = _times(ways)
    ends = [(one, other) for one in made.good for other in made.good if one < other and times[one] & times[other]]
    ends.extend([(stand, stand) for stand in range(len(ways))])
    # Behind the last tick at which two answers differ the plans are the same, and so are the answers.
    agreeing = reached(ends, lambda pair: _pairs_before(sources, times, pair, SAME))
    last = [before for pair in agreeing for before in _pairs_before(sources, times, pair, OTHER)]
    return least_enough(lasting(last, lambda pair: _pairs_before(sources, times, pair, SAME + OTHER)))


def least_enough(most):
    """Return the least number of ticks that is enough, from how many more ticks pairs of stands can last."""
    number = longest(most)
    return number + 1 if most and number is not None else number


def _splits(ways):
    """Return the triples of a stand, a letter and a pair of stands to which the letter leads with both answers."""
    return [(stand, letter, (targets[0][1], targets[1][1]))
            for stand, row in enumerate(ways) for letter, targets in enumerate(row) if len(targets) == 2]


def _lasting_ahead(ways):
    """Return for each pair of stands that other answers at one tick lead to how long it can go on."""
    starts = [pair for _, _, pair in _splits(ways)]
    return lasting(starts, lambda pair: [after for _, after in _pairs_after(ways, pair)])


def _pairs_after(ways, pair):
    """Return the pairs of a letter and the pair of stands to which it leads from a pair, with any answers."""
    return [(letter, (one, other)) for letter, targets in enumerate(ways[pair[0]])
            for _, one in targets for _, other in ways[pair[1]][letter]]


def _sources(ways):
    """Return for each stand and letter the pair of the lists of stands from which the answers lead here."""
    sources = [[([], []) for _ in letters] for letters in ways]
    for stand, row in enumerate(ways):
        for letter, targets in enumerate(row):
            for truth, target in targets:
                sources[target][letter][truth].append(stand)
    return sources


def _times(ways):
    """Return for each stand the numbers of ticks after which one can be there, as the bits of an integer.

    From the first stands on that come again, all goes on as it did before.
    """
    times = [0] * len(ways)
    stands = (0,)
    known = {}
    while stands not in known:
        for stand in stands:
            times[stand] |= 1 << len(known)
        known[stands] = True
        stands = tuple(sorted(set([target for at in stands for targets in ways[at] for _, target in targets])))
    return times


def _pairs_before(sources, times, pair, answers):
    """Return the pairs of stands, at the same tick, from which one letter and two such answers lead to a pair."""
    found = []
    for ones, others in zip(sources[pair[0]], sources[pair[1]]):
        for truth, other_truth in answers:
            for one in ones[truth]:
                for other in others[other_truth]:
                    if one != other and times[one] & times[other]:
                        found.append((one, other) if one < other else (other, one))
    return found
