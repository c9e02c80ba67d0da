"""Lengths: how long the runs and the gaps of answers come out at most."""

from spansieve.machines import machine
from spansieve.stretches import lasting_gaps, lasting_runs
from spansieve.walks import live_ways, longest


def longest_run(sieve):
    """Return the number of ticks of the longest run of an answer, 0 if none has a tick, None if there is no longest."""
    made = machine(sieve)
    return longest(lasting_runs(live_ways(made, made.names)))


def longest_gap(sieve):
    """Return the number of ticks of the longest gap of an answer, 0 if none has a gap, None if there is no longest."""
    made = machine(sieve)
    return longest(lasting_gaps(live_ways(made, made.names)))
