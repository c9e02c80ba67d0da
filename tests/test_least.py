"""The least machines of nets, by sets and by sums, against sets of stands that are told apart step by step."""

import random
import unittest

import second_way
from spansieve.joining import operand_net, operation_machine
from spansieve.least import in_order, kinds_of, least_machine, least_of, least_of_steps, numbered
from spansieve.machines import Machine, machine
from spansieve.nets import Net, live_stands, trimmed
from spansieve.sieves import Sieve
from spansieve.sums import least_by_sums
from spansieve.texts import WORDS
from spansieve.walks import live_ways


def sets_of(net):
    """Return moves and good stands of a machine whose stands are the sets of stands that rows of letters lead to."""
    sets, moves = [frozenset(net.starts)], []
    numbers = {sets[0]: 0}
    for stands in sets:
        row = []
        for letter in range(net.letters):
            led = frozenset(target for stand in stands for by, targets in net.ways[stand] if by == letter
                            for target in targets)
            if led not in numbers:
                numbers[led] = len(sets)
                sets.append(led)
            row.append(numbers[led])
        moves.append(row)
    return moves, [bool(stands & set(net.ends)) for stands in sets]


def told_apart(moves, good):
    """Return moves and good stands of the least machine, from those of any one."""
    kinds = good
    while True:
        told = [(kinds[stand], tuple(kinds[target] for target in row)) for stand, row in enumerate(moves)]
        numbers = {kind: number for number, kind in enumerate(dict.fromkeys(told))}
        if len(numbers) == len(set(kinds)):
            break
        kinds = [numbers[kind] for kind in told]
    first = {}
    for stand, kind in enumerate(kinds):
        first.setdefault(kind, stand)
    order = [kinds[0]]
    for kind in order:
        order.extend(dict.fromkeys(kinds[target] for target in moves[first[kind]] if kinds[target] not in order))
    rows = tuple(tuple(order.index(kinds[target]) for target in moves[first[kind]]) for kind in order)
    return rows, tuple(stand for stand, kind in enumerate(order) if good[first[kind]])


def joined_net(word, numbers, operands):
    """Return the net of an operation on sieves."""
    made = [machine(Sieve(text)) for text in operands]
    names = tuple(sorted({name for one in made for name in one.names}))
    ways = [live_ways(one, names) for one in made]
    if len(made) == 1:
        ways.append([[[(0, 0)]] * (1 << len(names))])
    moves, good = operation_machine(word, numbers, len(made))
    return operand_net(moves, good, ways, made)


def nets(many):
    """Return some nets of operations on sieves."""
    chance = random.Random(3)
    for word, (numbers, operands, least) in WORDS.items():
        for _ in range(3):
            yield joined_net(word, tuple(chance.randint(least, 4) for _ in range(numbers)), "AB"[:operands])
    while many:
        word = chance.choice(tuple(WORDS))
        numbers = tuple(chance.randint(WORDS[word][2], 3) for _ in range(WORDS[word][0]))
        texts = [second_way.made_up(chance, "AB", 4) for _ in range(WORDS[word][1])]
        many_stands = 1
        for text in texts:
            many_stands *= machine(Sieve(text)).many
        if many_stands < 400:
            many -= 1
            yield joined_net(word, numbers, texts)


class LeastMachineTest(unittest.TestCase):
    def test_against_sets_of_stands(self):
        for net in nets(120):
            moves, good = told_apart(*sets_of(net))
            for deed in (least_machine, least_by_sums):
                self.assertEqual(deed(net, len(moves)), (moves, good))
                self.assertEqual(deed(net, 1000), (moves, good))
                self.assertEqual(deed(trimmed(net), 1000), (moves, good))

    def test_one_stand_too_many(self):
        for net in nets(120):
            moves, good = least_machine(net, 1000)
            for deed in (least_machine, least_by_sums):
                for most in (len(moves), len(moves) + 1):
                    self.assertEqual(deed(net, most), (moves, good))
                for most in (len(moves) - 1, len(moves) // 2, 1):
                    self.assertIsNone(deed(net, most))

    def test_more_sums_than_stands(self):
        # There are 4096 sums of guesses for both operands, but the answers tell of 64 of them.
        both = joined_net("and", (), ("(move -6 A)", "(move -6 B)"))
        expected = machine(Sieve("(move -6 (and A B))"))
        for deed in (least_machine, least_by_sums):
            made = deed(both, 1000)
            self.assertEqual(len(made[0]), 128)
            self.assertEqual(made, (expected.moves, expected.good))
            self.assertIsNone(deed(both, 127))
            self.assertEqual(deed(both, 128), made)

    def test_more_sets_than_there_is_room_for(self):
        # The sets have more stands together than are looked at one by one, so sums are taken.
        for text in ("(less (move -6 A) (trim 3 6 (or A (move 5 A))))", "(meeting (move -5 (ended A B)) (move 2 (meeting B A)))"):
            made = machine(Sieve(text))
            self.assertEqual(made, machine(Sieve(text)))
            chance = random.Random(text)
            for _ in range(60):
                plan = second_way.plan_of("AB", [[chance.random() < 0.6 for _ in "AB"] for _ in range(chance.randint(0, 25))])
                right = second_way.answer(text, plan)
                self.assertTrue(made.accepts(plan, right))
                for tick in range(plan.size):
                    self.assertFalse(made.accepts(plan, tuple(sorted(set(right) ^ {tick}))))

    def test_nets_stay_as_they_are(self):
        net = joined_net("fill", (3,), ("(last 2 A)",))
        before = repr((net.letters, net.starts, net.ends, net.ways))
        for deed in (least_machine, least_by_sums):
            self.assertEqual(deed(net, 1000), deed(net, 1000))
            deed(net, 3)
            self.assertEqual(repr((net.letters, net.starts, net.ends, net.ways)), before)

    def test_stands_that_lead_to_no_end_are_left_out(self):
        ways = [[(0, [1, 2])], [(1, [1])], [(0, [3]), (1, [2])], [(1, [0])], [(0, [0])]]
        net = Net(2, [0, 4], [3], ways)
        self.assertEqual(live_stands(net), [True, False, True, True, True])
        left = trimmed(net)
        self.assertEqual((left.letters, left.starts, left.ends, left.ways),
                         (2, [0, 3], [2], [[(0, [1])], [(0, [2]), (1, [1])], [(1, [0])], [(0, [0])]]))
        self.assertEqual(live_stands(left), [True] * 4)


class OperationTest(unittest.TestCase):
    def test_machines_of_operations_are_those_of_sieves_on_names(self):
        chance = random.Random(4)
        for word, (many, operands, least) in WORDS.items():
            for _ in range(4):
                numbers = tuple(chance.randint(least, 4) for _ in range(many))
                moves, good = operation_machine(word, numbers, operands)
                made = Machine(tuple("EF"[:operands]), moves, good)
                text = "(" + " ".join([word, *map(str, numbers), *"EF"[:operands]]) + ")"
                self.assertEqual(machine(Sieve(text)), made, text)
                for line, ticks in second_way.answers(text, "EF"[:operands], 5 - operands).items():
                    plan = second_way.plan_of("EF"[:operands], line)
                    self.assertTrue(made.accepts(plan, tuple(sorted(ticks))))
                    for tick in range(len(line)):
                        self.assertFalse(made.accepts(plan, tuple(sorted(ticks ^ {tick}))))


class KindsTest(unittest.TestCase):
    def made_up(self, chance):
        """Return the moves of some machine of which all stands can be come to, and which of them are good."""
        while True:
            many = chance.randint(1, 12)
            moves = [[chance.randrange(many) for _ in range(2)] for _ in range(many)]
            seen = [0]
            for stand in seen:
                seen.extend(sorted(set(moves[stand]) - set(seen)))
            if len(seen) == many:
                return moves, [chance.random() < 0.3 for _ in range(many)]

    def test_least_machines_of_machines(self):
        chance = random.Random(6)
        for _ in range(200):
            moves, good = self.made_up(chance)
            expected = told_apart(moves, good)
            many = len(expected[0])
            self.assertEqual(least_of(moves, good, many), expected)
            self.assertIsNone(least_of(moves, good, many - 1) if many > 1 else None)
            kinds = kinds_of(moves, good, 100)
            self.assertEqual(len(set(kinds)), many)
            self.assertEqual(in_order(moves, good, kinds), expected)

    def test_numbered(self):
        self.assertEqual(numbered(["b", "a", "b", (1,), "a"]), [0, 1, 0, 2, 1])
        self.assertEqual(numbered([]), [])

    def test_least_machines_of_steps(self):
        # Two stands that answer alike and lead to one another.
        self.assertEqual(least_of_steps([[1, 1], [0, 0]], [(0, 1), (0, 1)], 2), (((0, 1, 1, 0), (1, 1, 1, 1)), (0,)))
        self.assertIsNone(least_of_steps([[1, 1], [0, 0]], [(0, 1), (0, 1)], 1))
        self.assertEqual(least_of_steps([[1, 1], [0, 0]], [(0, 1), (0, 0)], 3)[0],
                         ((1, 2, 2, 1), (0, 2, 0, 2), (2, 2, 2, 2)))


if __name__ == "__main__":
    unittest.main()
