"""The numbers that bound plans, sieves and machines."""

MOST_TICKS = 10000
MOST_PARTS = 12
MOST_NAMES = 3
MOST_DEEP = 7
MOST_NUMBER = 6
MOST_STANDS = 1000
