"""Guises worn by words, and by endless words."""

from guisery.machines import breadth, read_from
from guisery.words import check_endless, check_word, plain_word


def worn(guise, word):
    """What the guise makes of a word."""
    check_word(breadth(guise), word)
    made, at = read_from(guise, 0, word)
    return made


def worn_endless(guise, endless):
    """What the guise makes of an endless word, told plain."""
    check_endless(breadth(guise), endless)
    beginning, ring = endless
    made, at = read_from(guise, 0, beginning)
    laps = []
    laps_ahead = {}
    # The ring begun at a row at which it began before comes out as it did then, and so does all that follows.
    while at not in laps_ahead:
        laps_ahead[at] = len(laps)
        lap, at = read_from(guise, at, ring)
        laps.append(lap)
    first = laps_ahead[at]
    return plain_word(made + strung(laps[:first]), strung(laps[first:]))


def strung(laps):
    """One word of several, one behind another."""
    return tuple([letter for lap in laps for letter in lap])
