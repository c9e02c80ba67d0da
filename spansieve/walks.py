"""Ways through machines: which stands can be come to, and which plan leads to a stand first."""

from spansieve.plans import Plan


def wide_moves(machine, names):
    """Return for each stand of a machine and each letter of names the pair of the stands to which the answers lead.

    A letter of names is an integer: its binary digits, the first name's ahead, tell in which sets a tick is. The names
    are a rising row of those of the machine and perhaps others.
    """
    letters = [_own_letter(machine, names, letter) for letter in range(1 << len(names))]
    return [[row[2 * letter:2 * letter + 2] for letter in letters] for row in machine.moves]


def live_ways(machine, names):
    """Return for each stand and letter as above the pairs of an answer and a stand that can still become good."""
    dead = _dead_stands(machine)
    return [[[(truth, target) for truth, target in enumerate(targets) if target not in dead] for targets in row]
            for row in wide_moves(machine, names)]


def _dead_stands(machine):
    """Return the stands that lead to themselves alone and are not good; a least machine has one of them at most."""
    good = {stand: True for stand in machine.good}
    return {stand: True for stand, row in enumerate(machine.moves)
            if stand not in good and all([target == stand for target in row])}


def _own_letter(machine, names, letter):
    """Return the letter of the names of a machine that lies in a letter of more names."""
    own = 0
    for place, name in enumerate(names):
        if name in machine.names:
            own = 2 * own + (letter >> (len(names) - 1 - place) & 1)
    return own


def first_letters(start, letters, lead, is_wanted):
    """Return the first row of letters that leads from a place to a wanted one, None if there is none.

    Shorter rows come first, then those with a lesser letter where they differ. The function `lead` tells the places to
    which a letter leads from a place.
    """
    seen = {start: True}
    # The places of a group have the same first row: that of the group with this number, and a letter.
    groups = [([start], None, None)]
    number = 0
    while number < len(groups):
        places = groups[number][0]
        if any([is_wanted(place) for place in places]):
            return _letters_of(groups, number)
        for letter in range(letters):
            found = []
            for place in places:
                for target in lead(place, letter):
                    if target not in seen:
                        seen[target] = True
                        found.append(target)
            if found:
                groups.append((found, number, letter))
        number += 1
    return None


def _letters_of(groups, number):
    """Return the row of the letters that lead to a group."""
    letters = []
    while number:
        _, number, letter = groups[number]
        letters.append(letter)
    return letters[::-1]


def plan_of(names, letters):
    """Return the plan whose ticks have these letters of names."""
    rows = []
    for place, name in enumerate(names):
        digit = len(names) - 1 - place
        rows.append((name, tuple([tick for tick, letter in enumerate(letters) if letter >> digit & 1])))
    return Plan(len(letters), tuple(rows))
