"""Claims that the checker accepts."""

from spansieve.errors import InvalidNumber, NotASieve
from spansieve.judging import first_parting
from spansieve.kinds import is_integer_from
from spansieve.looking import unsure
from spansieve.machines import machine
from spansieve.sieves import Sieve
from spansieve.stretches import gap_ends, gap_steps, lasting_gaps, lasting_runs, run_steps
from spansieve.walks import first_letters, lasting_letters, lasts, letters_to, live_ways, plan_of

# The greatest number of ticks of a run or a gap that may be asked for.
MOST_CLAIMED = 1000


def claim_of_parting(one, other):
    """Return the claim that two sieves are not alike, None if they are."""
    found = first_parting(one, other)
    return None if found is None else ("unlike", one.text, other.text, found[0].text, found[1])


def claim_of_unsure(sieve, number):
    """Return the claim that a number is not enough ahead, None if it is."""
    found = unsure(sieve, number)
    if found is None:
        return None
    first, last, tick = found
    return "unsure", sieve.text, number, first.text, last.text, tick


def claim_of_run(sieve, number):
    """Return the claim that an answer has a run of at least so many ticks, None if none has one."""
    made = _machine(sieve, number)
    ways = live_ways(made, made.names)
    most = lasting_runs(ways)
    steps = run_steps(ways)
    for start in range(made.many):
        if lasts(most[start], number):
            letters, end = lasting_letters(most, start, number, lambda stand: steps[stand])
            return _claim("run", sieve, number, made, letters_to(ways, 0, {start: True}) + letters, end)
    return None


def claim_of_gap(sieve, number):
    """Return the claim that an answer has a gap of at least so many ticks, None if none has one."""
    made = _machine(sieve, number)
    ways = live_ways(made, made.names)
    most = lasting_gaps(ways)
    steps = gap_steps(ways)
    for stand, pairs in enumerate(run_steps(ways)):
        for letter, start in pairs:
            if lasts(most[start], number):
                letters, place = lasting_letters(most, start, number, lambda at: steps[at])
                letters = letters_to(ways, 0, {stand: True}) + [letter] + letters
                closing, end = _closing(ways, steps, place)
                return _claim("gap", sieve, number, made, letters + closing, end)
    return None


def _machine(sieve, number):
    """Return the machine of a sieve that is asked about so many ticks."""
    if not isinstance(sieve, Sieve):
        raise NotASieve(sieve)
    if not is_integer_from(number, 1, MOST_CLAIMED):
        raise InvalidNumber(number)
    return machine(sieve)


def _closing(ways, steps, place):
    """Return the letters on which a gap goes on from a stand to its end and a tick behind it, and where they lead."""
    ends = {stand: True for stand in gap_ends(ways)}
    letters = first_letters(place, len(ways[0]), lambda stand, letter: _led(steps[stand], letter),
                            lambda stand: stand in ends)
    for letter in letters:
        place = _led(steps[place], letter)[0]
    last, end = run_steps(ways)[place][0]
    return letters + [last], end


def _led(pairs, letter):
    """Return the list of the stands to which a letter leads: one at most, as the answer is the same."""
    return [target for by, target in pairs if by == letter]


def _claim(kind, sieve, number, made, letters, end):
    """Return the claim for letters that lead to a stand, with those that are missing for a plan."""
    good = {stand: True for stand in made.good}
    plan = plan_of(made.names, letters + letters_to(live_ways(made, made.names), end, good))
    return kind, sieve.text, number, plan.text
