"""The checker: whether claims are true. It is small, and trusts nobody but plans and sieves."""

from spansieve.errors import InvalidText
from spansieve.plans import Plan
from spansieve.sieves import Sieve


def holds(claim):
    """Tell whether a value is a claim for the checker and true."""
    if not isinstance(claim, tuple) or not claim or not isinstance(claim[0], str):
        return False
    kind, *rest = claim
    if kind == "unlike" and len(rest) == 4:
        return _is_unlike(rest[0], rest[1], rest[2], rest[3])
    if kind == "unsure" and len(rest) == 5:
        return _is_unsure(rest[0], rest[1], rest[2], rest[3], rest[4])
    if kind == "run" and len(rest) == 3:
        return _has_stretch(rest[0], rest[1], rest[2], _runs)
    return kind == "gap" and len(rest) == 3 and _has_stretch(rest[0], rest[1], rest[2], _gaps)


def _is_unlike(one_text, other_text, plan_text, tick):
    """Tell whether a tick of a plan is in just one of the answers of two sieves."""
    one, other, plan = _sieve(one_text), _sieve(other_text), _plan(plan_text)
    if not _fit(one, plan) or not _fit(other, plan) or not _is_integer(tick, 0):
        return False
    return tick < plan.size and (tick in one.run(plan)) != (tick in other.run(plan))


def _is_unsure(text, number, first_text, last_text, tick):
    """Tell whether two plans with the same ticks up to so many behind a tick have other answers there."""
    sieve, first, last = _sieve(text), _plan(first_text), _plan(last_text)
    if not _fit(sieve, first) or not _fit(sieve, last) or not _is_integer(number, 0) or not _is_integer(tick, 0):
        return False
    known = tick + number + 1
    if first.size < known or last.size < known:
        return False
    early, late = first.cut(known), last.cut(known)
    same = all([early.ticks(name) == late.ticks(name) for name in sieve.names])
    return same and (tick in sieve.run(first)) != (tick in sieve.run(last))


def _has_stretch(text, number, plan_text, stretches):
    """Tell whether the answer of a sieve for a plan has a stretch of at least so many ticks."""
    sieve, plan = _sieve(text), _plan(plan_text)
    if not _fit(sieve, plan) or not _is_integer(number, 1):
        return False
    return any([many >= number for many in stretches(sieve.run(plan))])


def _runs(ticks):
    """Return the numbers of ticks of the runs of a set, and of what they begin with."""
    numbers = []
    for place, tick in enumerate(ticks):
        goes_on = place > 0 and ticks[place - 1] == tick - 1
        numbers.append(numbers[-1] + 1 if goes_on else 1)
    return numbers


def _gaps(ticks):
    """Return the numbers of ticks between ticks of a set that follow one another."""
    return [later - tick - 1 for tick, later in zip(ticks, ticks[1:])]


def _fit(sieve, plan):
    """Tell whether there are a sieve and a plan that has its names."""
    if sieve is None or plan is None:
        return False
    return all([name in plan.names for name in sieve.names])


def _is_integer(value, least):
    """Tell whether a value is an integer that is not below another one."""
    return isinstance(value, int) and not isinstance(value, bool) and value >= least


def _sieve(text):
    """Return the sieve with a text, None if there is none."""
    try:
        return Sieve(text)
    except InvalidText:
        return None


def _plan(text):
    """Return the plan with a text, None if there is none."""
    try:
        return Plan.read(text)
    except InvalidText:
        return None
