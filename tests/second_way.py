"""A second way to all answers: tick by tick, as point 8 says it, and plan by plan for all plans of few ticks.

Nothing here uses the package but its plans. A sieve is given by its text, which must be one; a line of letters is a
tuple with a tuple of truths for each tick, one for each name.
"""

import itertools

from spansieve.plans import Plan

BINARY = ("and", "or", "less", "meeting", "inside", "begun", "ended", "held")

# For each word with one operand its heads: the word with each of the numbers that it may have.
HEADS = {
    "not": ("not",),
    "move": tuple(f"move {number}" for number in range(-6, 7)),
    "grid": tuple(f"grid {number}" for number in range(2, 7)),
    **{word: tuple(f"{word} {number}" for number in range(7)) for word in ("fill", "short", "long", "first", "last")},
    **{word: tuple(f"{word} {one} {other}" for one in range(7) for other in range(7)) for word in ("pad", "trim")},
}
ALL_HEADS = tuple(head for heads in HEADS.values() for head in heads)


def made_up(chance, names, parts, deep=7):
    """Return the text of some sieve with at most so many parts; `chance` is a random.Random."""
    if parts < 2 or deep < 2 or chance.random() < 0.05:
        return chance.choice(names if chance.random() < 0.93 else ("none", "all"))
    if parts < 3 or chance.random() < 0.6:
        head = chance.choice(HEADS[chance.choice(tuple(HEADS))])
        return f"({head} {made_up(chance, names, parts - 1, deep - 1)})"
    first = chance.randint(1, parts - 2)
    one, other = made_up(chance, names, first, deep - 1), made_up(chance, names, parts - 1 - first, deep - 1)
    return f"({chance.choice(BINARY)} {one} {other})"


def tree_of(text):
    """Return the tree of a text: a word, or a list of a word, its numbers and the trees of its operands."""
    words = text.replace("(", "( ").replace(")", " )").split()

    def read():
        word = words.pop(0)
        if word != "(":
            return int(word) if word.lstrip("-").isdigit() else word
        inner = []
        while words[0] != ")":
            inner.append(read())
        words.pop(0)
        return inner

    return read()


def names_of(text):
    """Return the rising row of the names in a text."""
    return tuple(sorted(set(sign for sign in text if sign.isupper())))


def runs_of(ticks, size):
    """Return the runs of a set: lists of ticks side by side, with none of the set ahead of them or behind them."""
    runs = []
    for first, last in itertools.combinations_with_replacement(range(size), 2):
        inner = list(range(first, last + 1))
        if all(tick in ticks for tick in inner) and first - 1 not in ticks and last + 1 not in ticks:
            runs.append(inner)
    return runs


def gaps_of(ticks, size):
    """Return the gaps of a set: the runs of the other ticks that have ticks of the set on both sides."""
    others = set(range(size)) - ticks
    return [gap for gap in runs_of(others, size) if gap[0] - 1 in ticks and gap[-1] + 1 in ticks]


def ticks_of(tree, size, sets):
    """Return the set of ticks in the answer; `sets` has the set of ticks of each name."""
    if isinstance(tree, str):
        return {"none": set(), "all": set(range(size))}.get(tree, sets.get(tree))
    word, *rest = tree
    numbers = [part for part in rest if isinstance(part, int)]
    one, *more = [ticks_of(part, size, sets) for part in rest if not isinstance(part, int)]
    other = more[0] if more else None
    line = range(size)
    if word in ("and", "or", "less", "not"):
        return {"and": lambda: one & other, "or": lambda: one | other, "less": lambda: one - other,
                "not": lambda: set(line) - one}[word]()
    if word == "move":
        return {tick for tick in line if tick - numbers[0] in one}
    if word == "pad":
        return {tick for tick in line if any(near in one for near in range(tick - numbers[1], tick + numbers[0] + 1))}
    if word == "fill":
        return one | {tick for gap in gaps_of(one, size) if len(gap) <= numbers[0] for tick in gap}
    if word == "held":
        return {tick for tick in line for start in range(tick + 1)
                if start in one and not any(later in other for later in range(start + 1, tick + 1))}
    if word == "grid":
        return {tick for tick in line if any(near // numbers[0] == tick // numbers[0] for near in one)}
    return {tick for run in runs_of(one, size) for tick in kept(word, numbers, run, other)}


def kept(word, numbers, run, other):
    """Return what is kept of a run."""
    if word == "trim":
        return run[numbers[0]:max(0, len(run) - numbers[1])]
    if word in ("first", "last"):
        return run[:numbers[0]] if word == "first" else run[max(0, len(run) - numbers[0]):]
    keeps = {
        "short": lambda: len(run) >= numbers[0],
        "long": lambda: len(run) <= numbers[0],
        "meeting": lambda: any(tick in other for tick in run),
        "inside": lambda: all(tick in other for tick in run),
        "begun": lambda: run[0] in other,
        "ended": lambda: run[-1] in other,
    }
    return run if keeps[word]() else []


def lines(many, size):
    """Return an iterator over all lines of letters with so many names and ticks, in the order of point 12."""
    return itertools.product(itertools.product((False, True), repeat=many), repeat=size)


def plan_of(names, line):
    """Return the plan for a line of letters."""
    return Plan(len(line), tuple((name, tuple(tick for tick, letter in enumerate(line) if letter[place]))
                                 for place, name in enumerate(names)))


def answer(text, plan):
    """Return the answer of a sieve for a plan: a rising row."""
    sets = {name: set(plan.ticks(name)) for name in plan.names}
    return tuple(sorted(ticks_of(tree_of(text), plan.size, sets)))


def answers(text, names, most):
    """Return for each line of letters of the names with at most so many ticks the answer, in the order of point 12."""
    tree = tree_of(text)
    told = {}
    for size in range(most + 1):
        for line in lines(len(names), size):
            sets = {name: {tick for tick, letter in enumerate(line) if letter[place]}
                    for place, name in enumerate(names)}
            told[line] = ticks_of(tree, size, sets)
    return told


def first_parting(one, other, most):
    """Return the first plan of at most so many ticks that parts two sieves, with the first tick; None without one."""
    return first_plan(one, other, most, lambda ticks, others: ticks ^ others)


def first_beyond(one, other, most):
    """Return the first plan of at most so many ticks for which one sieve is beyond the other one; None without one."""
    return first_plan(one, other, most, lambda ticks, others: ticks - others)


def first_plan(one, other, most, between):
    """Return the first plan with a tick between the answers of two sieves, with the first such tick."""
    names = tuple(sorted(set(names_of(one)) | set(names_of(other))))
    others = answers(other, names, most)
    for line, ticks in answers(one, names, most).items():
        if between(ticks, others[line]):
            return plan_of(names, line), min(between(ticks, others[line]))
    return None


def least_ahead(text, most):
    """Return the least number that is enough ahead for all plans of at most so many ticks."""
    told = answers(text, names_of(text), most)
    return 1 + max([-1] + [known for tick in range(most) for known in range(most - tick)
                           if parted((line[:tick + known + 1], tick in ticks)
                                     for line, ticks in told.items() if len(line) > tick + known)])


def least_back(text, most):
    """Return the least number that is enough back for all plans of at most so many ticks."""
    told = answers(text, names_of(text), most)
    return 1 + max([-1] + [known for tick in range(most) for known in range(tick + 1)
                           if parted(((len(line), line[tick - known:]), tick in ticks)
                                     for line, ticks in told.items() if len(line) > tick)])


def parted(pairs):
    """Tell whether two of the pairs begin alike and end in another way."""
    ends = {}
    return any(ends.setdefault(known, truth) != truth for known, truth in pairs)
