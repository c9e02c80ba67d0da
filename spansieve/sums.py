"""The least machines of nets by sums, where sets of stands are too many.

In the nets that are made of sieves a row of letters leads on one way at most from the starts to the ends: all that is
guessed on such a way (the answers of operands, say) is told by the whole plan. This is why ways may be counted by twos.
What a row of letters does to a net is then a sum of what it does to single stands, and the stands of the least machine
are found by sums, where sets of stands would be far too many: often there are a thousand times as many sets as there
are different sums.

A set of stands is written as an integer, bit by bit, and so is a sum. The ways of a net are written flat here: for each
stand the pairs of a letter and one stand.
"""

from spansieve.nets import Net

# How long the rows are at most that make the prints of stands.
ROUNDS = 24


def least_by_sums(net, most):
    """Return the pair of moves and good stands of the least machine, None if it has more than `most` stands.

    The stands are numbered as they are come to first, stand by stand and letter by letter.
    """
    ways = [[(letter, target) for letter, targets in pairs for target in targets] for pairs in net.ways]
    net = Net(net.letters, net.starts, net.ends, ways)
    basis, worths = _weighed(net, most)
    if len(basis) > most:
        # There may be few sums to which rows lead all the same. If there are too many prints, there are too many sums.
        if _explored(net, _prints(net), most) is None:
            return None
        # Once nothing is kept but sums to which rows lead, a basis has no more stands than the machine.
        net = _turned(_folded(_turned(net)))
        basis, worths = _weighed(net, most)
        if len(basis) > most:
            return None
    return _explored(_joined(net, basis, worths), [1 << stand for stand in range(len(basis))], most)


def _turned(net):
    """Return the net that accepts the rows that are read from their ends."""
    return Net(net.letters, net.ends, net.starts, _incoming(net))


def _incoming(net):
    """Return for each stand the pairs of a letter and a stand from which it leads here."""
    incoming = [[] for _ in net.ways]
    for stand, pairs in enumerate(net.ways):
        for letter, target in pairs:
            incoming[target].append((letter, stand))
    return incoming


def _folded(net):
    """Return a net that accepts the same rows, and of whose stands none accepts the sum of what others accept."""
    basis, worths = _weighed(net, len(net.ways))
    return _joined(net, basis, worths)


def _joined(net, basis, worths):
    """Return the net that has just the stands of the basis; what led to others leads to those that they are worth."""
    ends = {stand: True for stand in net.ends}
    ways = [_joined_ways(net.ways[stand], worths) for stand in basis]
    starts = _bits(_sum([worths[stand] for stand in net.starts]))
    return Net(net.letters, starts, [at for at, stand in enumerate(basis) if stand in ends], ways)


def _joined_ways(pairs, worths):
    """Return the pairs of a letter and a place in the basis for those of a letter and a stand."""
    targets = {}
    for letter, target in pairs:
        targets[letter] = targets.get(letter, 0) ^ worths[target]
    return [(letter, at) for letter in targets for at in _bits(targets[letter])]


def _weighed(net, most):
    """Return a basis, a list of stands, and for each stand its worth: the sum of stands of the basis that it is worth.

    A stand is worth a sum if it accepts just the rows of letters that the sum accepts. The tests that tell stands apart
    are rows of letters, shorter ones first. If there are more than `most` stands in the basis, not all tests are made.
    """
    incoming = _incoming(net)
    worths = [0 for _ in net.ways]
    basis = []
    gaps = {stand: 1 for stand in net.ends}
    while gaps:
        shares, added = _shares(gaps)
        _add_shares(worths, len(basis), shares, added)
        basis = basis + added
        if len(basis) > most:
            break
        gaps = _gaps(worths, basis, _passed_on(incoming, shares, len(added)))
    return basis, worths


def _shares(gaps):
    """Return for each stand with a gap the sum of added stands that closes it, and the list of the added stands."""
    pivots = {}
    added = []
    known = {}
    for stand, gap in gaps.items():
        if gap not in known:
            rest, share = _reduced(gap, pivots)
            if rest:
                pivots[rest.bit_length()] = (rest, share ^ (1 << len(added)))
                share = 1 << len(added)
                added.append(stand)
            known[gap] = share
    return {stand: known[gap] for stand, gap in gaps.items()}, added


def _reduced(gap, pivots):
    """Return what is left of a gap without the pivots in it, and the sum of the added stands that make them."""
    share = 0
    while gap and gap.bit_length() in pivots:
        pivot, made = pivots[gap.bit_length()]
        gap ^= pivot
        share ^= made
    return gap, share


def _add_shares(worths, many, shares, added):
    """Change the worths of all stands to those for a basis of `many` stands and the added ones."""
    old = [worths[stand] for stand in added]
    known = {}
    for stand, share in shares.items():
        if share not in known:
            # The added stands take away what they were worth so far, and stand for themselves.
            known[share] = _sum([old[at] for at in _bits(share)]) ^ (share << many)
        worths[stand] ^= known[share]


def _passed_on(incoming, shares, width):
    """Return for each stand what the last tests tell of it with one more letter ahead, `width` bits for each letter."""
    told = {}
    for target, share in shares.items():
        for letter, stand in incoming[target]:
            told[stand] = told.get(stand, 0) ^ (share << (letter * width))
    return told


def _gaps(worths, basis, told):
    """Return for each stand that the tests tell apart from its worth by what they do so."""
    heard = [told.get(stand, 0) for stand in basis]
    mask = sum([1 << at for at, value in enumerate(heard) if value])
    known = {0: 0}
    gaps = {}
    for stand, worth in enumerate(worths):
        part = worth & mask
        if part not in known:
            known[part] = _sum([heard[at] for at in _bits(part)])
        gap = told.get(stand, 0) ^ known[part]
        if gap:
            gaps[stand] = gap
    return gaps


def _prints(net):
    """Return for each stand a print: sets of stands that accept the same rows have the same sum of prints.

    A print is a sum with a bit for each accepted row of up to ROUNDS letters, at a place that the letters tell. Rows
    may share a place, so sets with the same sum may accept different rows.
    """
    ends = [0 for _ in net.ways]
    for stand in net.ends:
        ends[stand] = 1
    prints = ends
    for number in range(ROUNDS):
        shifts = [(letter + 3) * (letter + 5 * number + 1) % 61 for letter in range(net.letters)]
        longer = list(ends)
        for stand, pairs in enumerate(net.ways):
            for letter, target in pairs:
                longer[stand] ^= prints[target] << shifts[letter]
        prints = longer
    return prints


def _explored(net, worths, most):
    """Return the moves and good stands of the machine whose stands are the sums of worths, None if it has too many."""
    ends = _sum([1 << stand for stand in net.ends])
    sets = [_sum([1 << stand for stand in net.starts])]
    numbers = {_sum([worths[stand] for stand in net.starts]): 0}
    moves = []
    while len(moves) < len(sets):
        row = []
        followed = _followed(net, worths, sets[len(moves)])
        for worth, target in followed:
            if worth not in numbers:
                if len(sets) == most:
                    return None
                numbers[worth] = len(sets)
                sets.append(target)
            row.append(numbers[worth])
        moves.append(tuple(row))
    good = [stand for stand, bits in enumerate(sets) if len(_bits(bits & ends)) & 1]
    return tuple(moves), tuple(good)


def _followed(net, worths, bits):
    """Return for each letter the pair of the worth of the set to which it leads from a set, and that set."""
    found = [0] * net.letters
    targets = [0] * net.letters
    for stand in _bits(bits):
        for letter, target in net.ways[stand]:
            found[letter] ^= worths[target]
            targets[letter] ^= 1 << target
    return list(zip(found, targets))


def _sum(values):
    """Return the sum of integers, bit by bit: 1 and 1 are 0."""
    total = 0
    for value in values:
        total ^= value
    return total


def _bits(value):
    """Return the rising list of the places of the bits of an integer."""
    places = []
    while value:
        low = value & -value
        places.append(low.bit_length() - 1)
        value ^= low
    return places
