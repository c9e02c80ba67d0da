"""Joining: machines for what operations make of their operands, from the machines of these."""

from spansieve.least import least_machine, least_of, least_of_steps
from spansieve.limits import MOST_STANDS
from spansieve.nets import Net
from spansieve.operations import OPERATIONS, TRUTHS, reaches
from spansieve.walks import live_ways

# The moves of the machine of a name.
OF_A_NAME = ((0, 1, 1, 0), (1, 1, 1, 1))


def joined(word, numbers, operands, names, known):
    """Return moves and good stands of the least machine of an operation, None if it has too many stands.

    The operands are given by their machines. The names are all of theirs, rising; a letter has their truths, and that
    of the answer as the last one. The dict `known` gets the machines of operations on any sets, for the next time.
    """
    ways = [live_ways(operand, names) for operand in operands]
    if len(operands) == 1:
        # An operation with one operand does not look at another one.
        ways.append([[[(0, 0)]] * (1 << len(names))])
    guesses = _guesses(word, numbers, len(operands))
    ones, twos = [_singles(row) for row in ways]
    if len(guesses) == 1 and ones is not None and twos is not None:
        # No answer waits for later ticks, so there is but one way for each plan.
        steps, truths = _direct(_table(word, numbers), ones, twos)
        return least_of_steps(steps, truths, MOST_STANDS)
    if (word, numbers) not in known:
        known[(word, numbers)] = operation_machine(word, numbers, len(operands))
    moves, good = known[(word, numbers)]
    if all([operand.moves == OF_A_NAME for operand in operands]):
        if names == tuple([operand.names[0] for operand in operands]):
            return moves, good
    return least_machine(operand_net(moves, good, ways, operands), MOST_STANDS)


def _singles(ways):
    """Return for each stand and letter the only pair of an answer and a stand that it has, None if some have others."""
    singles = []
    for row in ways:
        counts = [len(pairs) for pairs in row]
        if max(counts) > 1 or max(counts) != min(counts):
            return None
        # The dead stand has no ways, and none leads there.
        singles.append([pairs[0] for pairs in row] if max(counts) else [])
    return singles


def _table(word, numbers):
    """Return for each state before a tick and each row of TRUTHS the answer and the next state; states are numbered."""
    before, _, verdict = OPERATIONS[word]
    most = reaches(word, numbers)[0]
    states = [0]
    at = {0: 0}
    table = []
    while len(table) < len(states):
        state = states[len(table)]
        row = []
        for one, two in TRUTHS:
            target = before(most, state, one, two)
            if target not in at:
                at[target] = len(states)
                states.append(target)
            row.append((1 if verdict(numbers, state, one, two, 0) else 0, at[target]))
        table.append(row)
    return table


def _direct(table, ones, twos):
    """Return for each stand the stands and the answers to which letters lead on the only ways of both operands."""
    width, height = len(ones), len(twos)
    numbers = {0: 0}
    places = [0]
    steps, truths = [], []
    while len(steps) < len(places):
        rest, second = divmod(places[len(steps)], height)
        state, first = divmod(rest, width)
        led = table[state]
        row, told = [], []
        for (one, one_target), (two, two_target) in zip(ones[first], twos[second]):
            truth, target = led[2 * one + two]
            place = (target * width + one_target) * height + two_target
            number = numbers.get(place)
            if number is None:
                number = len(places)
                numbers[place] = number
                places.append(place)
            row.append(number)
            told.append(truth)
        steps.append(row)
        truths.append(tuple(told))
    return steps, truths


def operation_machine(word, numbers, operands):
    """Return moves and good stands of the least machine of an operation on so many sets, E and F or E alone.

    The letters are rows of truths: whether a tick is in E, in F and in the answer. What lies before a tick is one
    state; of what lies after it all states are kept that fit to the answers so far.
    """
    before, _, verdict = OPERATIONS[word]
    most = reaches(word, numbers)[0]
    guesses = _guesses(word, numbers, operands)
    letters = [4 * one + 2 * two if operands == 2 else 2 * one for one, two in TRUTHS]
    stands = [(0, tuple(sorted(list(guesses)))), (0, ())]
    numbered = {stand: number for number, stand in enumerate(stands)}
    moves = []
    while len(moves) < len(stands):
        left, rights = stands[len(moves)]
        found = {}
        for right in rights:
            for one, two, beyond in guesses[right]:
                letter = letters[2 * one + two] + (1 if verdict(numbers, left, one, two, beyond) else 0)
                if letter not in found:
                    found[letter] = (before(most, left, one, two), [])
                found[letter][1].append(beyond)
        row = [1] * (2 << operands)
        for letter, (state, fitting) in found.items():
            stand = (state, tuple(sorted(fitting)))
            if stand not in numbered:
                numbered[stand] = len(stands)
                stands.append(stand)
            row[letter] = numbered[stand]
        moves.append(row)
    return least_of(moves, [0 in rights for _, rights in stands], MOST_STANDS)


def _guesses(word, numbers, operands):
    """Return for each state after a tick its origins: the truths of the next tick and the state after that one."""
    after = OPERATIONS[word][1]
    most = reaches(word, numbers)[1]
    truths = TRUTHS if operands == 2 else ((0, 0), (1, 0))
    guesses = {0: []}
    waiting = [0]
    while waiting:
        beyond = waiting.pop()
        for one, two in truths:
            state = after(most, beyond, one, two)
            if state not in guesses:
                guesses[state] = []
                waiting.append(state)
            guesses[state].append((one, two, beyond))
    return guesses


def operand_net(moves, good, ways, operands):
    """Return the net for what an operation makes of its operands, from its machine and the ways of theirs.

    On each way the answers of the operands are guessed; their machines accept just one guess for a whole plan.
    """
    live = _live_moves(moves, good, len(operands))
    one_ways = [[(letter, pairs) for letter, pairs in enumerate(row) if pairs] for row in ways[0]]
    two_ways = ways[1]
    places = [(0, 0, 0)]
    numbers = {places[0]: 0}
    rows = []
    while len(rows) < len(places):
        at, first, second = places[len(rows)]
        led = live[at]
        row = []
        for letter, one_pairs in one_ways[first]:
            found = ([], [])
            for two, two_target in two_ways[second][letter]:
                for one, one_target in one_pairs:
                    for truth, target in led[2 * one + two]:
                        place = (target, one_target, two_target)
                        number = numbers.get(place)
                        if number is None:
                            number = len(places)
                            numbers[place] = number
                            places.append(place)
                        found[truth].append(number)
            row.extend([(2 * letter + truth, found[truth]) for truth in (0, 1) if found[truth]])
        rows.append(row)
    return Net(2 * len(two_ways[0]), [0], _ends(places, good, operands), rows)


def _ends(places, good, operands):
    """Return the numbers of the places of which all stands are good."""
    goods = [{stand: True for stand in row} for row in [good] + [operand.good for operand in operands]]
    if len(goods) == 2:
        goods.append({0: True})
    return [number for number, (at, first, second) in enumerate(places)
            if at in goods[0] and first in goods[1] and second in goods[2]]


def _live_moves(moves, good, operands):
    """Return for each stand of an operation and each row of TRUTHS the pairs of an answer and a live stand."""
    dead = [stand for stand, row in enumerate(moves) if stand not in good and min(row) == stand == max(row)]
    live = []
    for row in moves:
        pairs = [[(truth, target) for truth, target in enumerate(row[at:at + 2]) if target not in dead]
                 for at in range(0, len(row), 2)]
        live.append(pairs if operands == 2 else [pairs[0], pairs[0], pairs[1], pairs[1]])
    return live
