"""The least machines of nets, against sets of stands that are told apart step by step."""

import random
import unittest

import second_way
from spansieve.joining import operand_net, operation_net
from spansieve.machines import machine
from spansieve.nets import least_machine
from spansieve.sieves import Sieve
from spansieve.texts import WORDS


def sets_of(net):
    """Return moves and good stands of a machine whose stands are the sets of stands that rows of letters lead to."""
    sets, moves = [frozenset(net.starts)], []
    numbers = {sets[0]: 0}
    for stands in sets:
        row = []
        for letter in range(net.letters):
            led = frozenset(target for stand in stands for by, target in net.ways[stand] if by == letter)
            if led not in numbers:
                numbers[led] = len(sets)
                sets.append(led)
            row.append(numbers[led])
        moves.append(row)
    return moves, [bool(stands & set(net.ends)) for stands in sets]


def told_apart(moves, good):
    """Return moves and good stands of the least machine, from those of any one."""
    kinds = good
    while True:
        told = [(kinds[stand], tuple(kinds[target] for target in row)) for stand, row in enumerate(moves)]
        numbers = {kind: number for number, kind in enumerate(dict.fromkeys(told))}
        if len(numbers) == len(set(kinds)):
            break
        kinds = [numbers[kind] for kind in told]
    first = {}
    for stand, kind in enumerate(kinds):
        first.setdefault(kind, stand)
    order = [kinds[0]]
    for kind in order:
        order.extend(dict.fromkeys(kinds[target] for target in moves[first[kind]] if kinds[target] not in order))
    rows = tuple(tuple(order.index(kinds[target]) for target in moves[first[kind]]) for kind in order)
    return rows, tuple(stand for stand, kind in enumerate(order) if good[first[kind]])


def nets(many):
    """Return some nets of operations, alone and on machines of sieves."""
    chance = random.Random(3)
    for word, (numbers, operands, least) in WORDS.items():
        for _ in range(3):
            yield operation_net(word, tuple(chance.randint(least, 4) for _ in range(numbers)))
    while many:
        word = chance.choice(tuple(WORDS))
        numbers = tuple(chance.randint(WORDS[word][2], 3) for _ in range(WORDS[word][0]))
        texts = [second_way.made_up(chance, "AB", 4) if WORDS[word][1] > at else "none" for at in range(2)]
        one, other = [machine(Sieve(text)) for text in texts]
        if one.many * other.many < 400:
            many -= 1
            yield operand_net(operation(word, numbers), one, other, tuple(sorted(set(one.names) | set(other.names))))


def operation(word, numbers):
    """Return the machine of an operation on E and F."""
    text = "(" + " ".join([word, *map(str, numbers), *"EF"[:WORDS[word][1]]]) + ")"
    made = machine(Sieve(text if WORDS[word][1] == 2 else f"(or (and E (and F none)) {text})"))
    return made


class LeastMachineTest(unittest.TestCase):
    def test_against_sets_of_stands(self):
        for net in nets(120):
            moves, good = told_apart(*sets_of(net))
            self.assertEqual(least_machine(net, len(moves)), (moves, good))
            self.assertEqual(least_machine(net, 1000), (moves, good))

    def test_one_stand_too_many(self):
        for net in nets(120):
            moves, good = least_machine(net, 1000)
            for most in (len(moves), len(moves) + 1):
                self.assertEqual(least_machine(net, most), (moves, good))
            for most in (len(moves) - 1, len(moves) // 2, 1):
                self.assertIsNone(least_machine(net, most))

    def test_more_sums_than_stands(self):
        # There are 4096 sums of guesses for both operands, but the answers tell of 64 of them.
        shifted = machine(Sieve("(move -6 A)"))
        other = machine(Sieve("(move -6 B)"))
        both = operand_net(machine(Sieve("(and E F)")), shifted, other, ("A", "B"))
        made = least_machine(both, 1000)
        self.assertEqual(len(made[0]), 128)
        self.assertEqual(made, (machine(Sieve("(move -6 (and A B))")).moves, machine(Sieve("(move -6 (and A B))")).good))
        self.assertIsNone(least_machine(both, 127))
        self.assertEqual(least_machine(both, 128), made)

    def test_nets_stay_as_they_are(self):
        net = operation_net("fill", (3,))
        before = ([list(row) for row in net.ways], list(net.starts), list(net.ends))
        self.assertEqual(least_machine(net, 1000), least_machine(net, 1000))
        least_machine(net, 3)
        self.assertEqual((net.ways, net.starts, net.ends), before)


if __name__ == "__main__":
    unittest.main()
