"""Least machines: of nets, and of machines that may have stands that do the same."""

from spansieve.nets import trimmed
from spansieve.sums import least_by_sums

# Up to how many stands of a net sets of them are tried, and how many stands all sets may have together, each set
# counted as one more. Greater nets have too many sets for the most part.
STANDS = 3000
ROOM = 12000


def least_machine(net, most):
    """Return the pair of moves and good stands of the least machine of a net, None if it has more than `most` stands.

    The stands are numbered as they are come to first, stand by stand and letter by letter.
    """
    net = trimmed(net)
    found = _sets(net) if len(net.ways) <= STANDS else None
    return least_by_sums(net, most) if found is None else least_of(found[0], found[1], most)


def _sets(net):
    """Return moves and good stands of the machine whose stands are sets of stands of a net; None if they are great.

    Its stand 1 is the set without stands. It is always come to: while all answers could still be right, each letter
    would double the sets.
    """
    room = ROOM
    sets = [tuple(net.starts), ()]
    numbers = {stands: number for number, stands in enumerate(sets)}
    moves = []
    while len(moves) < len(sets):
        stands = sets[len(moves)]
        room -= 1 + len(stands)
        if room < 0:
            return None
        found = {}
        for stand in stands:
            for letter, targets in net.ways[stand]:
                found[letter] = found[letter] + targets if letter in found else targets
        row = [1] * net.letters
        for letter, targets in found.items():
            target = tuple(sorted(targets))
            number = numbers.get(target)
            if number is None:
                number = len(sets)
                numbers[target] = number
                sets.append(target)
            row[letter] = number
        moves.append(row)
    ends = {stand: True for stand in net.ends}
    return moves, [any([stand in ends for stand in stands]) for stands in sets]


def least_of(moves, good, most):
    """Return moves and good stands of the least machine that accepts the same rows, None if it has too many stands.

    The moves are those of any machine whose stands can all be come to, with a truth for each whether it is good.
    """
    kinds = kinds_of(moves, good, most)
    return None if kinds is None else in_order(moves, good, kinds)


def least_of_steps(steps, truths, most):
    """Return moves and good stands as above for what has but one answer to each tick, as soon as it is read.

    For each stand there are the stands and the answers to which the letters of names lead.
    """
    # The dead stand comes along: any other answer leads there.
    kinds = kinds_of(steps, numbered(truths), most - 1)
    if kinds is None:
        return None
    dead = len(steps)
    moves = []
    for targets, told in zip(steps, truths):
        row = []
        for target, truth in zip(targets, told):
            row.extend((dead, target) if truth else (target, dead))
        moves.append(row)
    moves.append([dead] * len(moves[0]))
    return in_order(moves, [True] * dead + [False], kinds + [dead])


def in_order(moves, good, kinds):
    """Return moves and good stands of the machine that has a stand for each kind, numbered as they are come to."""
    first = {}
    for stand, kind in enumerate(kinds):
        first.setdefault(kind, stand)
    order = [kinds[0]]
    numbers = {kinds[0]: 0}
    rows = []
    while len(rows) < len(order):
        row = []
        led = moves[first[order[len(rows)]]]
        for target in led:
            kind = kinds[target]
            number = numbers.get(kind)
            if number is None:
                number = len(order)
                numbers[kind] = number
                order.append(kind)
            row.append(number)
        rows.append(tuple(row))
    return tuple(rows), tuple([number for number, kind in enumerate(order) if good[first[kind]]])


def kinds_of(moves, good, most):
    """Return for each stand a number that it shares with just those that accept the same rows; None if too many."""
    # Letters that lead alike from all stands need to be asked but once.
    columns = list({column: True for column in zip(*moves)})
    kinds = good
    many = 1
    while True:
        led = [[kinds[target] for target in column] for column in columns]
        numbers = {}
        kinds = [numbers.setdefault(key, len(numbers)) for key in zip(kinds, *led)]
        if len(numbers) > most:
            return None
        if len(numbers) in (many, len(moves)):
            return kinds
        many = len(numbers)


def numbered(values):
    """Return for each value the number of the first one that is equal to it, counting those that differ."""
    numbers = {}
    return [numbers.setdefault(value, len(numbers)) for value in values]
