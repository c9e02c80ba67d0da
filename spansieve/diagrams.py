"""Diagrams: truths that depend on other truths, each of them written but once.

A diagram is an integer: 0 is what never holds, 1 what always holds, any other one a node with a *place*, the number of
the truth that is asked first, and the diagrams for what follows if it does not hold and if it does. Places rise from a
node to those behind it, so that the same diagram always has the same integer.
"""

# Behind all places.
LAST = 10000


class Diagrams:
    """The nodes of diagrams, and what was worked out about them."""

    def __init__(self):
        self._nodes = [(LAST, 0, 0), (LAST, 1, 1)]
        self._numbers = {}
        self._chosen = {}

    def place(self, diagram):
        """Return the place of the truth that is asked first."""
        return self._nodes[diagram][0]

    def node(self, place, no, yes):
        """Return the diagram that asks the truth at a place ahead of those of two diagrams."""
        if no == yes:
            return no
        key = (place, no, yes)
        if key not in self._numbers:
            self._numbers[key] = len(self._nodes)
            self._nodes.append(key)
        return self._numbers[key]

    def choice(self, test, yes, no):
        """Return the diagram for `yes` where `test` holds, and for `no` where it does not."""
        if test < 2:
            return yes if test else no
        if yes == no or (yes == 1 and no == 0):
            return yes if yes == no else test
        key = (test, yes, no)
        if key not in self._chosen:
            place = min(self.place(test), self.place(yes), self.place(no))
            lows, highs = [], []
            for diagram in key:
                own, low, high = self._nodes[diagram]
                lows.append(low if own == place else diagram)
                highs.append(high if own == place else diagram)
            self._chosen[key] = self.node(place, self.choice(lows[0], lows[1], lows[2]),
                                          self.choice(highs[0], highs[1], highs[2]))
        return self._chosen[key]

    def both(self, one, other):
        """Return the diagram for what holds where two diagrams do."""
        return self.choice(one, other, 0) if one > other else self.choice(other, one, 0)

    def either(self, one, other):
        """Return the diagram for what holds where one of two diagrams does at least."""
        return self.choice(one, 1, other) if one > other else self.choice(other, 1, one)

    def differ(self, one, other):
        """Return the diagram for what holds where just one of two diagrams does."""
        return self.choice(one, self.choice(other, 0, 1), other)

    def replaced(self, diagram, others, known):
        """Return a diagram with others in the place of truths; `known` starts as {} and holds what was worked out."""
        if diagram < 2:
            return diagram
        if diagram not in known:
            place, low, high = self._nodes[diagram]
            no, yes = self.replaced(low, others, known), self.replaced(high, others, known)
            test = others[place] if place in others else self.node(place, 0, 1)
            known[diagram] = self.choice(test, yes, no)
        return known[diagram]

    def exists(self, diagram, places, known):
        """Return the diagram for what holds if the truths at some places are chosen well; `known` as above."""
        if diagram < 2:
            return diagram
        if diagram not in known:
            place, low, high = self._nodes[diagram]
            no, yes = self.exists(low, places, known), self.exists(high, places, known)
            known[diagram] = self.either(no, yes) if place in places else self.node(place, no, yes)
        return known[diagram]

    def places(self, diagram):
        """Return the rising list of the places of a diagram."""
        seen = {diagram: True}
        waiting = [diagram]
        while waiting:
            _, low, high = self._nodes[waiting.pop()]
            for follower in (low, high):
                if follower not in seen:
                    seen[follower] = True
                    waiting.append(follower)
        return sorted(set([self._nodes[at][0] for at in seen if at > 1]))
