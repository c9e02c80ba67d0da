"""Judging: whether sieves are alike or within one another, and the first plans that show that they are not."""

from spansieve.errors import NotASieve
from spansieve.machines import machine
from spansieve.sieves import Sieve
from spansieve.walks import first_letters, live_ways, plan_of, wide_moves


def alike(one, other):
    """Tell whether two sieves have the same answers for all plans."""
    return first_parting(one, other) is None


def first_parting(one, other):
    """Return the first plan for which the answers of two sieves differ, with the first tick at which they do.

    None if there is none.
    """
    left, right, names = _machines(one, other)
    ways = live_ways(left, names)
    moves = wide_moves(right, names)
    wrong = _others(right)
    good = {stand: True for stand in left.good}

    def lead(place, letter):
        first, second = place
        return [(target, moves[second][letter][truth]) for truth, target in ways[first][letter]]

    # Each plan has one answer for each of both, so they differ if the one machine accepts what the other one does not.
    letters = first_letters((0, 0), 1 << len(names), lead, lambda place: place[0] in good and place[1] in wrong)
    if letters is None:
        return None
    plan = plan_of(names, letters)
    told = [one.run(plan), other.run(plan)]
    return plan, min(_without(told[0], told[1]) + _without(told[1], told[0]))


def within(one, other):
    """Tell whether for all plans the ticks in the answer of one sieve are in the answer of the other one."""
    return first_beyond(one, other) is None


def first_beyond(one, other):
    """Return the first plan for which one sieve has a tick that the other one has not, with the first such tick there.

    None if there is none.
    """
    left, right, names = _machines(one, other)
    ways = live_ways(left, names)
    other_ways = live_ways(right, names)
    wrong, other_wrong = _others(left), _others(right)

    def lead(place, letter):
        first, second, beyond = place
        places = []
        for truth, target in ways[first][letter]:
            for other_truth, other_target in other_ways[second][letter]:
                places.append((target, other_target, beyond or truth > other_truth))
        return places

    def is_wanted(place):
        return place[2] and place[0] not in wrong and place[1] not in other_wrong

    letters = first_letters((0, 0, False), 1 << len(names), lead, is_wanted)
    if letters is None:
        return None
    plan = plan_of(names, letters)
    return plan, min(_without(one.run(plan), other.run(plan)))


def _machines(one, other):
    """Return the machines of two sieves, and the rising row of the names of both."""
    if not isinstance(one, Sieve):
        raise NotASieve(one)
    if not isinstance(other, Sieve):
        raise NotASieve(other)
    left, right = machine(one), machine(other)
    return left, right, tuple(sorted(set(list(left.names) + list(right.names))))


def _others(of):
    """Return the stands of a machine that are not good."""
    good = {stand: True for stand in of.good}
    return {stand: True for stand in range(of.many) if stand not in good}


def _without(ticks, others):
    """Return the list of the ticks that are not among others."""
    held = {tick: True for tick in others}
    return [tick for tick in ticks if tick not in held]
