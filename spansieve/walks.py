"""Ways through machines: which stands can be come to, how long one can go on, and which plan leads to a stand first."""

from spansieve.plans import Plan


def wide_moves(machine, names):
    """Return for each stand of a machine and each letter of names the pair of the stands to which the answers lead.

    A letter of names is an integer: its binary digits, the first name's ahead, tell in which sets a tick is. The names
    are a rising row of those of the machine and perhaps others.
    """
    letters = [_own_letter(machine, names, letter) for letter in range(1 << len(names))]
    return [[row[2 * letter:2 * letter + 2] for letter in letters] for row in machine.moves]


def live_ways(machine, names):
    """Return for each stand and letter as above the pairs of an answer and a stand that can still become good."""
    dead = _dead_stand(machine)
    return [[[(truth, target) for truth, target in enumerate(targets) if target != dead] for targets in row]
            for row in wide_moves(machine, names)]


def _dead_stand(machine):
    """Return the stand that leads to itself alone and is not good, None if there is none; there is one at most."""
    good = {stand: True for stand in machine.good}
    for stand, row in enumerate(machine.moves):
        if stand not in good and min(row) == stand == max(row):
            return stand
    return None


def _own_letter(machine, names, letter):
    """Return the letter of the names of a machine that lies in a letter of more names."""
    own = 0
    for place, name in enumerate(names):
        if name in machine.names:
            own = 2 * own + (letter >> (len(names) - 1 - place) & 1)
    return own


def first_letters(start, letters, lead, is_wanted):
    """Return the first row of letters that leads from a place to a wanted one, None if there is none.

    Shorter rows come first, then those with a lesser letter where they differ. The function `lead` tells the places to
    which a letter leads from a place.
    """
    seen = {start: True}
    # The places of a group have the same first row: that of the group with this number, and a letter.
    groups = [([start], None, None)]
    number = 0
    while number < len(groups):
        places = groups[number][0]
        if any([is_wanted(place) for place in places]):
            return _letters_of(groups, number)
        for letter in range(letters):
            found = []
            for place in places:
                for target in lead(place, letter):
                    if target not in seen:
                        seen[target] = True
                        found.append(target)
            if found:
                groups.append((found, number, letter))
        number += 1
    return None


def _letters_of(groups, number):
    """Return the row of the letters that lead to a group."""
    letters = []
    while number:
        _, number, letter = groups[number]
        letters.append(letter)
    return letters[::-1]


def plan_of(names, letters):
    """Return the plan whose ticks have these letters of names."""
    rows = []
    for place, name in enumerate(names):
        digit = len(names) - 1 - place
        rows.append((name, tuple([tick for tick, letter in enumerate(letters) if letter >> digit & 1])))
    return Plan(len(letters), tuple(rows))


def letters_to(ways, start, wanted):
    """Return the first row of letters that leads from a stand to a wanted one, None if there is none."""
    letters = len(ways[0])
    return first_letters(start, letters, lambda stand, letter: [target for _, target in ways[stand][letter]],
                         lambda stand: stand in wanted)


def reached(starts, lead):
    """Return the list of all places that can be come to from the starts.

    The function `lead` tells the places to which a step leads from a place.
    """
    known = {place: True for place in starts}
    waiting = list(known)
    found = []
    while waiting:
        place = waiting.pop()
        found.append(place)
        for target in lead(place):
            if target not in known:
                known[target] = True
                waiting.append(target)
    return found


def lasting(starts, lead):
    """Return for each place that can be come to from the starts in how many steps one can go on at most.

    None if there is no end to it. The function `lead` tells the places to which a step leads from a place.
    """
    most = {}
    entered = {}
    waiting = list(starts)
    while waiting:
        place = waiting[-1]
        if place in most:
            waiting.pop()
        elif place in entered:
            waiting.pop()
            # A place that was entered and is not done yet has led here: this is a round.
            longer = [most.get(target) for target in entered[place]]
            entered[place] = ()
            most[place] = None if None in longer else max([-1] + longer) + 1
        else:
            entered[place] = lead(place)
            waiting.extend([target for target in entered[place] if target not in entered])
    return most


def lasts(most, number):
    """Tell whether what lasts for so many steps (None: without end) lasts for a number of them."""
    return most is None or most >= number


def longest(most):
    """Return the greatest of the numbers of steps of `lasting`, None if one has no end, 0 if there are none."""
    numbers = list(most.values())
    return None if None in numbers else max([0] + numbers)


def lasting_letters(most, place, number, lead):
    """Return a row of so many letters on which one can go on from a place, and the place to which they lead.

    The numbers of steps `most` are those of `lasting`; the function `lead` tells pairs of a letter and a place.
    """
    letters = []
    while len(letters) < number:
        letter, place = _lasting_step(most, number - len(letters) - 1, lead(place))
        letters.append(letter)
    return letters, place


def _lasting_step(most, number, pairs):
    """Return the first pair of a letter and a place from which one can go on for a number of steps."""
    for letter, target in pairs:
        if lasts(most[target], number):
            return letter, target
    return None
