"""Stretches: ticks side by side with the same answer, as ways through a machine.

The ways are those of `live_ways`, so each stretch on them is one of the answer for some plan.
"""

from spansieve.walks import lasting, reached


def run_steps(ways):
    """Return for each stand the pairs of a letter and a stand to which it leads if the tick is in the answer."""
    return _steps(ways, 1)


def lasting_runs(ways):
    """Return for each stand how many ticks of a run can follow at most, None if there is no end to it."""
    steps = _targets(run_steps(ways))
    return lasting(list(range(len(ways))), lambda stand: steps[stand])


def gap_steps(ways):
    """Return for each stand the pairs as above if the tick is not in the answer, but a later one can be."""
    steps = _steps(ways, 0)
    sources = [[] for _ in ways]
    for stand, targets in enumerate(_targets(steps)):
        for target in targets:
            sources[target].append(stand)
    closing = {stand: True for stand in reached(gap_ends(ways), lambda stand: sources[stand])}
    return [[(letter, target) for letter, target in pairs if target in closing] for pairs in steps]


def gap_ends(ways):
    """Return the list of the stands at which a tick of the answer can end a gap."""
    return [stand for stand, pairs in enumerate(run_steps(ways)) if pairs]


def lasting_gaps(ways):
    """Return for each stand at which a gap can begin or go on how many ticks of it can follow, None without end."""
    steps = _targets(gap_steps(ways))
    starts = [target for targets in _targets(run_steps(ways)) for target in targets]
    return lasting(starts, lambda stand: steps[stand])


def _steps(ways, wanted):
    """Return for each stand the pairs of a letter and a stand to which it leads with the wanted answer."""
    return [[(letter, target) for letter, targets in enumerate(row) for truth, target in targets if truth == wanted]
            for row in ways]


def _targets(steps):
    """Return for each stand the stands to which the steps lead."""
    return [[target for _, target in pairs] for pairs in steps]
