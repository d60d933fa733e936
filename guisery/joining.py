"""Guises made of guises: joined, turned back, behind a word, branches put together, so many times."""

from guisery.errors import BadCount
from guisery.letters import turned, undone
from guisery.machines import breadth, least_form, read_from, section_at, still
from guisery.words import check_word

MOST_TIMES = 64


def joined(one, other):
    """The one guise and then the other."""
    return least_form((0, 0), lambda pair: joined_row(one, other, pair))


def joined_row(one, other, pair):
    """What a row of the one and then a row of the other do; its goings are pairs of rows, too."""
    row, beside = pair
    rearranging, goings = one[row]
    rearranging_then, goings_then = other[beside]
    # The other one reads what the one has made of a letter.
    pairs = [(going, goings_then[made]) for going, made in zip(goings, rearranging)]
    return (turned(rearranging, rearranging_then), tuple(pairs))


def back(guise):
    """The guise that makes of each word the one that it came of."""
    return least_form(0, lambda at: row_back(guise[at]))


def row_back(row):
    """The row turned back: a letter goes on where the one that it came of went on."""
    rearranging, goings = row
    came_of = undone(rearranging)
    return (came_of, tuple([goings[letter] for letter in came_of]))


def behind(guise, word):
    """What the guise does to what follows a word."""
    check_word(breadth(guise), word)
    made, at = read_from(guise, 0, word)
    return section_at(guise, at)


def branched(first, guises):
    """The first letter rearranged, and then the guise of the letter that was read."""
    branches = []
    begun_at = []
    for guise in guises:
        begun_at.append(1 + len(branches))
        branches.extend(rows_moved(guise, 1 + len(branches)))
    rows = [(first, tuple(begun_at))] + branches
    return least_form(0, lambda at: rows[at])


def rows_moved(guise, many):
    """The rows of a guise, numbered from so many on."""
    return [(rearranging, tuple([going + many for going in goings])) for rearranging, goings in guise]


def times(guise, many):
    """The guise so many times."""
    if not -MOST_TIMES <= many <= MOST_TIMES:
        raise BadCount("a guise is told from -64 to 64 times")
    told = still(breadth(guise))
    for count in range(abs(many)):
        told = joined(told, guise)
    return back(told) if many < 0 else told
