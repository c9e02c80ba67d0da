"""Shorter sieves that have the same answers, and names that do not matter."""

from spansieve.likeness import have_same_answers
from spansieve.machines import machine, machine_among, machines_of_parts
from spansieve.samples import sample
from spansieve.sieves import Sieve
from spansieve.texts import lengths_of, operands_of, read_steps, replaced, texts_of
from spansieve.walks import wide_moves

# How many samples are asked at first, and how many before all plans are asked by diagrams.
FEW = 2
MANY = 100


def shorter(sieve):
    """Return the row of the sieves that are alike to a sieve and come about if an operation in it is left out.

    An operation is left out by putting one of its operands, `none` or `all` in its place.
    """
    made = machines_of_parts(sieve)
    steps = read_steps(sieve.text)
    seen = {}
    found = []
    for index, part in _replacements(steps):
        others = replaced(steps, index, part)
        text = texts_of(others)[0]
        if text not in seen:
            seen[text] = True
            if _are_alike(steps, others, index, made):
                found.append(Sieve(text))
    return tuple(found)


def idle(sieve):
    """Return the rising row of the names of a sieve that do not matter for its answers."""
    made = machine(sieve)
    return tuple([name for place, name in enumerate(made.names) if _is_idle(made, len(made.names) - place)])


def _is_idle(made, digit):
    """Tell whether a machine never looks at the truth with this place among the binary digits of its letters."""
    flip = 1 << digit
    return all([row[letter] == row[letter ^ flip] for row in made.moves for letter in range(len(row))])


def _replacements(steps):
    """Return the pairs of the index of a part and the steps that are put in its place, in the order of the document."""
    many = lengths_of(steps)
    pairs = []
    for index, (word, _) in enumerate(steps):
        at = index + 1
        for _ in range(operands_of(word)):
            pairs.append((index, steps[at:at + many[at]]))
            at += many[at]
        if operands_of(word):
            pairs.extend([(index, (("none", ()),)), (index, (("all", ()),))])
    return pairs


def _are_alike(steps, others, index, made):
    """Tell whether two sieves are alike that differ in the part with this index alone.

    The dict `made` holds the machines of parts, those of the first sieve among them.
    """
    many = lengths_of(steps)
    other_many = lengths_of(others)
    texts = texts_of(steps)
    # Where the same answers are met on the way out, those of the whole are the same.
    for level in range(index, -1, -1):
        if level + many[level] > index:
            found = machine_among(others[level:level + other_many[level]], made)
            if found is None:
                # What is too great itself, and not in its operands alone, has more stands than the first sieve.
                return level > 0 and not _are_parted(steps, others, MANY) and have_same_answers(steps, others)
            if _do_the_same(made[texts[level]], found):
                return True
            if level == index and _are_parted(steps, others, FEW):
                return False
    return False


def _are_parted(steps, others, many):
    """Tell whether one of so many samples parts two sieves."""
    one, other = Sieve(texts_of(steps)[0]), Sieve(texts_of(others)[0])
    plans = [sample(one.names, number) for number in range(many)]
    return any([one.run(plan) != other.run(plan) for plan in plans])


def _do_the_same(one, other):
    """Tell whether the machine of a sieve and that of one with some of its names, or all, tell the same answers."""
    # The stands are numbered alike with more names: what these add comes behind what was there.
    return one.many == other.many and one.good == other.good and (
        wide_moves(one, one.names) == wide_moves(other, one.names))
