"""The console: answers lines about a sieve."""

from spansieve.errors import InvalidText, NotASieve
from spansieve.judging import first_beyond, first_parting
from spansieve.lengths import longest_gap, longest_run
from spansieve.looking import ahead, back
from spansieve.machines import machine
from spansieve.shorter import idle, shorter
from spansieve.sieves import Sieve


def _show(sieve):
    return sieve.text


def _names(sieve):
    return _row(sieve.names, " ")


def _stands(sieve):
    return str(machine(sieve).many)


def _ahead(sieve):
    return _number(ahead(sieve))


def _behind(sieve):
    return _number(back(sieve))


def _run(sieve):
    return _number(longest_run(sieve))


def _gap(sieve):
    return _number(longest_gap(sieve))


def _idle(sieve):
    return _row(idle(sieve), " ")


def _shorter(sieve):
    return _row([short.text for short in shorter(sieve)], " ; ")


def _row(texts, between):
    """Return what stands for a row of texts."""
    return between.join(list(texts)) if texts else "none"


def _number(number):
    """Return what stands for a number, or for None."""
    return "endless" if number is None else str(number)


def _alike(sieve, other):
    return _shown(first_parting(sieve, other))


def _within(sieve, other):
    return _shown(first_beyond(sieve, other))


def _shown(found):
    """Return what stands for a plan and a tick, or for None."""
    if found is None:
        return "yes"
    plan, tick = found
    return f"{_in_one_line(plan.text)} {tick}"


def _in_one_line(text):
    """Return a text with a stroke in the place of each line end."""
    return text.replace("\n", "/")


# The lines of one word that ask about the sieve.
QUESTIONS = {"show": _show, "names": _names, "stands": _stands, "ahead": _ahead, "behind": _behind, "run": _run,
             "gap": _gap, "idle": _idle, "shorter": _shorter}

# The first words of the lines that ask about the sieve and another one.
COMPARISONS = {"alike": _alike, "within": _within}


class Console:
    """Answers lines about a sieve, the last one that was taken and stands."""

    def __init__(self, sieve):
        if not isinstance(sieve, Sieve):
            raise NotASieve(sieve)
        self._taken = [sieve]

    def say(self, line):
        """Return the answer to a line."""
        if not isinstance(line, str):
            raise InvalidText(line)
        if line == "back":
            return self._back()
        if line in QUESTIONS:
            question = QUESTIONS[line]
            return question(self._taken[-1])
        word, _, rest = line.partition(" ")
        if word != "take" and word not in COMPARISONS:
            raise InvalidText(line)
        other = _sieve_in(line, rest)
        if word == "take":
            self._taken.append(other)
            return "ok"
        comparison = COMPARISONS[word]
        return comparison(self._taken[-1], other)

    def _back(self):
        """Go back to the sieve before the last one that was taken."""
        if len(self._taken) == 1:
            return "none"
        self._taken.pop()
        return "ok"


def _sieve_in(line, text):
    """Return the sieve whose text stands in a line."""
    try:
        return Sieve(text)
    except InvalidText:
        raise InvalidText(line)
