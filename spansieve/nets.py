"""Nets: machines that may go on from a stand in several ways."""


class Net:
    """A net: how many letters it has, its starts, its ends, and its ways.

    The ways are for each stand a list of pairs: a letter, and the list of the stands to which it leads, one at least.
    """

    def __init__(self, letters, starts, ends, ways):
        self.letters = letters
        self.starts = starts
        self.ends = ends
        self.ways = ways


def trimmed(net):
    """Return the net without the stands from which no end can be come to."""
    live = live_stands(net)
    stands = [stand for stand, lives in enumerate(live) if lives]
    if len(stands) == len(live):
        return net
    numbers = {stand: number for number, stand in enumerate(stands)}
    ways = []
    for stand in stands:
        led = [(letter, [numbers[target] for target in targets if live[target]]) for letter, targets in net.ways[stand]]
        ways.append([(letter, targets) for letter, targets in led if targets])
    starts = [numbers[stand] for stand in net.starts if live[stand]]
    return Net(net.letters, starts, [numbers[stand] for stand in net.ends], ways)


def live_stands(net):
    """Return for each stand whether an end can be come to from it."""
    if len(net.ends) == len(net.ways):
        return [True] * len(net.ways)
    sources = [[] for _ in net.ways]
    for stand, pairs in enumerate(net.ways):
        for _, targets in pairs:
            for target in targets:
                sources[target].append(stand)
    live = [False] * len(net.ways)
    waiting = list(net.ends)
    while waiting:
        stand = waiting.pop()
        if not live[stand]:
            live[stand] = True
            waiting.extend(sources[stand])
    return live
