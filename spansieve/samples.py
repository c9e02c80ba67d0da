"""Samples: plans with short and long runs and gaps in all sorts of rows, by which most sieves can be told apart."""

from spansieve.plans import Plan

# The sizes of samples by turns.
SIZES = (60, 30, 12)

# Of eight ticks side by side so many are in a set, about.
SHARES = (1, 4, 7, 8, 5, 0)


def sample(names, number):
    """Return the sample for some names that has this number, always the same one."""
    size = SIZES[number % 3]
    value = number + 1
    rows = []
    for place, name in enumerate(names):
        ticks = []
        for tick in range(size):
            value = value * 69069 % 65537
            stretch = tick // (3 + number % 7) + number // 3 + 5 * place
            if value // 64 % 8 < SHARES[stretch * (1 + number % 5) % len(SHARES)]:
                ticks.append(tick)
        rows.append((name, tuple(ticks)))
    return Plan(size, tuple(rows))
