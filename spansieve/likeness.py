"""Likeness of sieves of any size: by diagrams of all that can be come to, where machines would be too great."""

from spansieve.circuits import Circuit
from spansieve.texts import texts_of


def have_same_answers(steps, others):
    """Tell whether two sieves, given by their steps, have the same answers for all plans."""
    circuit = Circuit([steps, others])
    diagrams = circuit.diagrams
    answers = [circuit.answers[texts_of(one)[0]] for one in (steps, others)]
    differing = diagrams.differ(answers[0], answers[1])
    # One digit more tells whether the answers differed at a tick before.
    flag = 2 + max([0] + circuit.inputs + [place for place, _ in circuit.before + circuit.after])
    before = circuit.before + [(flag, diagrams.either(diagrams.node(flag, 0, 1), differing))]
    image = Image(diagrams, circuit.inputs, before, circuit.after)
    # Nothing lies after the end of a line; what was guessed otherwise was wrong.
    wrong = diagrams.both(diagrams.node(flag, 0, 1), _zeros(diagrams, circuit.after))
    reached = _zeros(diagrams, before)
    found = reached
    while found:
        led = image.of(found)
        found = diagrams.choice(reached, 0, led)
        reached = diagrams.either(reached, led)
        if diagrams.both(found, wrong):
            return False
    return True


def _zeros(diagrams, pairs):
    """Return the diagram for what holds where no digit at the places of these pairs does."""
    told = 1
    for place, _ in sorted(pairs)[::-1]:
        told = diagrams.both(told, diagrams.node(place, 1, 0))
    return told


class Image:
    """Leads from a set of rows of digits, written as a diagram, to the set of those at the next tick."""

    def __init__(self, diagrams, inputs, before, after):
        self.diagrams = diagrams
        self.guesses = dict(after)
        self.back = {place + 1: diagrams.node(place, 0, 1) for place, _ in before + after}
        self.relations = [diagrams.differ(diagrams.node(place + 1, 1, 0), led) for place, led in before]
        # A digit of this tick is dropped as soon as no other relation asks it.
        last = {place: -1 for place in inputs + [place for place, _ in before]}
        for number, relation in enumerate(self.relations):
            for place in diagrams.places(relation):
                if place in last:
                    last[place] = number
        self.dropped = [{place: True for place in last if last[place] == number}
                        for number in range(-1, len(self.relations))]

    def of(self, rows):
        """Return the set of the rows to which these rows lead."""
        led = self.diagrams.replaced(rows, self.guesses, {})
        led = self.diagrams.exists(led, self.dropped[0], {})
        for relation, dropped in zip(self.relations, self.dropped[1:]):
            led = self.diagrams.exists(self.diagrams.both(led, relation), dropped, {})
        return self.diagrams.replaced(led, self.back, {})
