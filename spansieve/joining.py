"""Nets for operations: on any two sets, and on what machines of operands tell."""

from spansieve.nets import Net
from spansieve.operations import OPERATIONS, reaches
from spansieve.walks import live_ways

# The truths of a tick: whether it is in E, and whether it is in F.
TRUTHS = ((0, 0), (0, 1), (1, 0), (1, 1))


def operation_net(word, numbers):
    """Return the net of an operation on two sets E and F.

    The letters are rows of three truths: whether a tick is in E, in F and in the answer. On each way the states of what
    lies after the ticks are guessed; just one guess fits to the end of the line.
    """
    before, after, verdict = OPERATIONS[word]
    most_before, most_after = reaches(word, numbers)
    guesses = _guesses(after, most_after)

    def lead(place):
        left, right = place
        pairs = []
        for one, two, beyond in guesses[right]:
            truth = 1 if verdict(numbers, left, one, two, beyond) else 0
            pairs.append((4 * one + 2 * two + truth, (before(most_before, left, one, two), beyond)))
        return pairs

    return _net(8, [(0, right) for right in guesses], lead, lambda place: place[1] == 0)


def _guesses(after, most):
    """Return for each state after a tick its origins: the truths of the next tick and the state after that one."""
    guesses = {0: []}
    waiting = [0]
    while waiting:
        beyond = waiting.pop()
        for one, two in TRUTHS:
            state = after(most, beyond, one, two)
            if state not in guesses:
                guesses[state] = []
                waiting.append(state)
            guesses[state].append((one, two, beyond))
    return guesses


def operand_net(operation, one, two, names):
    """Return the net for what an operation makes of two sieves, from the machines of all three.

    The letters are those of the names, which are all that the sieves have, with the truth of the answer as the last
    one. On each way the answers of the two sieves are guessed; their machines accept just one guess for a whole plan.
    """
    ways = live_ways(operation, ("E", "F"))
    one_ways = live_ways(one, names)
    two_ways = live_ways(two, names)
    good, one_good, two_good = [{stand: True for stand in made.good} for made in (operation, one, two)]

    def lead(place):
        at, first, second = place
        pairs = []
        for letter, targets in enumerate(one_ways[first]):
            for one_truth, one_target in targets:
                for two_truth, two_target in two_ways[second][letter]:
                    for truth, target in ways[at][2 * one_truth + two_truth]:
                        pairs.append((2 * letter + truth, (target, one_target, two_target)))
        return pairs

    def is_end(place):
        return place[0] in good and place[1] in one_good and place[2] in two_good

    return _net(2 << len(names), [(0, 0, 0)], lead, is_end)


def _net(letters, starts, lead, is_end):
    """Return the net of all places that can be come to, numbered as they are come to."""
    numbers = {place: at for at, place in enumerate(starts)}
    places = list(starts)
    ways = []
    while len(ways) < len(places):
        pairs = []
        led = lead(places[len(ways)])
        for letter, place in led:
            if place not in numbers:
                numbers[place] = len(places)
                places.append(place)
            pairs.append((letter, numbers[place]))
        ways.append(pairs)
    return Net(letters, list(range(len(starts))), [at for at, place in enumerate(places) if is_end(place)], ways)
