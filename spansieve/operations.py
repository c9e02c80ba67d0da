"""The operations of sieves, each told by what lies before a tick, at it and after it.

What lies on one side of a tick is summed up in a number, the *state* of this side. It is 0 at the end of the line and
is carried on from tick to tick: from the first tick on for the side before, from the last tick back for the side
after. The same few rules serve to work out answers tick by tick and to make machines for all plans at once.
"""

# The truths of a tick: whether it is in E, and whether it is in F.
TRUTHS = ((0, 0), (0, 1), (1, 0), (1, 1))


def _none(most, state, one, two):
    """Carry on nothing."""
    return 0


def _streak(most, state, one, two):
    """Count the ticks of E side by side up to here, but not beyond `most`."""
    return min(most, state + 1) if one else 0


def _near(most, state, one, two):
    """Count down from `most` since the last tick of E."""
    return most if one else max(0, state - 1)


def _kept(most, state, one, two):
    """Keep the last `most` ticks as binary digits, the last one as the least."""
    return (state * 2 + one) & ((1 << most) - 1)


def _met(most, state, one, two):
    """Tell whether the run of E up to here has a tick of F."""
    return int(one and (state or two))


def _missed(most, state, one, two):
    """Tell whether the run of E up to here has a tick that is not in F."""
    return int(one and (state or not two))


def _opened(most, state, one, two):
    """Tell whether the outermost tick of the run of E up to here is in F: 1 if so, 2 if not, 0 without a run."""
    if not one:
        return 0
    return state or 2 - two


def _held(most, state, one, two):
    """Tell whether a tick of E was met and none of F since then."""
    return int(one or (state and not two))


def _block(most, state, one, two):
    """Tell the place in the block of `most` ticks, doubled, and one more if the block has had a tick of E."""
    place, had = divmod(state, 2)
    return 2 * place + 2 + int(had or one) if place + 1 < most else 0


def _and(numbers, before, one, two, after):
    return one and two


def _or(numbers, before, one, two, after):
    return one or two


def _less(numbers, before, one, two, after):
    return one and not two


def _not(numbers, before, one, two, after):
    return not one


def _move(numbers, before, one, two, after):
    number = numbers[0]
    if number > 0:
        return before >> (number - 1)
    return after >> (-number - 1) if number < 0 else one


def _pad(numbers, before, one, two, after):
    return one or before or after


def _trim(numbers, before, one, two, after):
    return one and before == numbers[0] and after == numbers[1]


def _fill(numbers, before, one, two, after):
    # A side without a tick of E within reach is 0; the other one alone is never enough.
    return one or before + after > numbers[0]


def _short(numbers, before, one, two, after):
    return one and before + 1 + after >= numbers[0]


def _long(numbers, before, one, two, after):
    return one and before + 1 + after <= numbers[0]


def _first(numbers, before, one, two, after):
    return one and before < numbers[0]


def _last(numbers, before, one, two, after):
    return one and after < numbers[0]


def _meeting(numbers, before, one, two, after):
    return one and (before or two or after)


def _inside(numbers, before, one, two, after):
    return one and two and not before and not after


def _begun(numbers, before, one, two, after):
    return one and (before == 1 or (two and before == 0))


def _ended(numbers, before, one, two, after):
    return one and (after == 1 or (two and after == 0))


def _holding(numbers, before, one, two, after):
    return one or (before and not two)


def _grid(numbers, before, one, two, after):
    place, had = divmod(before, 2)
    return one or had or place + 1 < after


# For each word: what is carried on before and after a tick, and what tells from its numbers, the state before, whether
# the tick is in E and in F, and the state after whether it is in the answer.
OPERATIONS = {
    "and": (_none, _none, _and),
    "or": (_none, _none, _or),
    "less": (_none, _none, _less),
    "not": (_none, _none, _not),
    "move": (_kept, _kept, _move),
    "pad": (_near, _near, _pad),
    "trim": (_streak, _streak, _trim),
    "fill": (_near, _near, _fill),
    "short": (_streak, _streak, _short),
    "long": (_streak, _streak, _long),
    "first": (_streak, _none, _first),
    "last": (_none, _streak, _last),
    "meeting": (_met, _met, _meeting),
    "inside": (_missed, _missed, _inside),
    "begun": (_opened, _none, _begun),
    "ended": (_none, _opened, _ended),
    "held": (_held, _none, _holding),
    "grid": (_block, _near, _grid),
}


def reaches(word, numbers):
    """Return the pair of the numbers that bound the states before and after a tick."""
    if word == "pad":
        return numbers[1], numbers[0]
    if word == "trim":
        return numbers
    if word == "move":
        return max(0, numbers[0]), max(0, -numbers[0])
    return (numbers[0], numbers[0]) if numbers else (0, 0)


def answer(word, numbers, ones, twos):
    """Return for each tick of a line 1 if it is in the answer and 0 if not; `ones` and `twos` tell so of E and F."""
    before, after, verdict = OPERATIONS[word]
    most_before, most_after = reaches(word, numbers)
    ahead = _states(before, most_before, ones, twos)
    behind = _states(after, most_after, ones[::-1], twos[::-1])[::-1]
    told = []
    for left, one, two, right in zip(ahead, ones, twos, behind):
        told.append(1 if verdict(numbers, left, one, two, right) else 0)
    return told


def _states(side, most, ones, twos):
    """Return the list of the states of one side at each tick, before this tick is added to it."""
    states = []
    state = 0
    for one, two in zip(ones, twos):
        states.append(state)
        state = side(most, state, one, two)
    return states
