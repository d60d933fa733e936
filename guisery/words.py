"""Words, and endless words: pairs of a beginning and a ring that comes again and again."""

from guisery.errors import BadCount, BadWord

MOST_HEAD = 2000


def check_word(letters, word):
    """Refuse a word that has what is none of so many letters."""
    if any([not 0 <= letter < letters for letter in word]):
        raise BadWord("a word has what is no letter")


def check_endless(letters, endless):
    """Refuse an endless word that has no ring, or what is none of so many letters."""
    beginning, ring = endless
    check_ring(ring)
    check_word(letters, beginning)
    check_word(letters, ring)


def check_ring(ring):
    """Refuse a ring without any letter."""
    if len(ring) == 0:
        raise BadWord("an endless word has no ring")


def plain_word(beginning, ring):
    """The one plain pair of an endless word."""
    check_ring(ring)
    least = least_ring(ring)
    ringed = count_ringed(beginning, least)
    # The letters that the beginning gives up are the ring's last ones, so the ring begins that much earlier.
    cut = len(least) - ringed % len(least)
    return (beginning[:len(beginning) - ringed], least[cut:] + least[:cut])


def least_ring(ring):
    """The shortest word that makes the ring, some times over."""
    size = 1
    while len(ring) % size != 0 or ring[:size] * (len(ring) // size) != ring:
        size += 1
    return ring[:size]


def count_ringed(beginning, ring):
    """How many letters at the beginning's end are as if the ring, gone round backwards, stood there."""
    count = 0
    while count < len(beginning) and beginning[-1 - count] == ring[-1 - count % len(ring)]:
        count += 1
    return count


def letter_at(endless, place):
    """The letter of an endless word at a place."""
    if place < 0:
        raise BadCount("a place is counted from 0")
    beginning, ring = endless
    if place < len(beginning):
        return beginning[place]
    return ring[(place - len(beginning)) % len(ring)]


def head_of(endless, many):
    """The first letters of an endless word."""
    if not 0 <= many <= MOST_HEAD:
        raise BadCount("from 0 to 2000 first letters are told")
    return tuple([letter_at(endless, place) for place in range(many)])


def alike_for(one, other):
    """How many letters two endless words have alike ahead of the first unlike one; None where they are the same."""
    # Two rings that go alike for as many letters as both have together go alike for ever (Fine and Wilf).
    enough = max(len(one[0]), len(other[0])) + len(one[1]) + len(other[1])
    for place in range(enough):
        if letter_at(one, place) != letter_at(other, place):
            return place
    return None
