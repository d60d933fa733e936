"""The sections of guises, how deep guises go, and how many times make them still."""

from guisery.errors import BadCount
from guisery.joining import MOST_TIMES, joined
from guisery.letters import same_letters
from guisery.machines import breadth, section_at, still


def sections(guise):
    """The guises behind any words, in the order of the form's rows."""
    return [section_at(guise, row) for row in range(len(guise))]


def lasting(guise):
    """The sections that are behind themselves at some word that isn't empty, in the order of the form's rows."""
    return [section_at(guise, row) for row in range(len(guise)) if comes_again(guise, row)]


def comes_again(guise, row):
    """Whether a row is come to from itself."""
    found = gone_to(guise, [row])
    seen = {going: True for going in found}
    at = 0
    while at < len(found):
        for going in gone_to(guise, [found[at]]):
            if going not in seen:
                seen[going] = True
                found.append(going)
        at += 1
    return row in seen


def gone_to(guise, rows):
    """The rows to which some rows go by one letter, each once."""
    seen = {}
    for row in rows:
        rearranging, goings = guise[row]
        for going in goings:
            seen[going] = True
    return list(seen)


def crew(guises):
    """All sections of some guises, each once: fewer rows first, then the lesser form."""
    seen = {}
    for guise in guises:
        for section in sections(guise):
            seen[section] = True
    return sorted(seen, key=lambda section: (len(section), section))


def depth(guise):
    """The least number of letters behind which the guise is always still; None where there is none."""
    # A row that isn't still is come to through such rows alone. A way down through more of them than there are
    # rows has come to one of them again, and so has no end.
    moving = [0]
    for many in range(len(guise)):
        moving = [row for row in moving if not is_still(guise, row)]
        if not moving:
            return many
        moving = gone_to(guise, moving)
    return None


def is_still(guise, row):
    """Whether a row of a form leaves all that follows; no other row is alike, so it goes on at itself."""
    letters = breadth(guise)
    return guise[row] == (same_letters(letters), (row,) * letters)


def order(guise, most):
    """The least number of times, up to the most, that make the still guise; None where there is none."""
    if not 1 <= most <= MOST_TIMES:
        raise BadCount("an order is looked for up to 1 to 64 times")
    leaves = still(breadth(guise))
    told = leaves
    for count in range(1, most + 1):
        told = joined(told, guise)
        if told == leaves:
            return count
    return None
