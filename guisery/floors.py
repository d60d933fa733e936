"""Floors: all words of so many letters, told by their numbers, and how guises rearrange them."""

from guisery.errors import BadCount, TooMany
from guisery.machines import breadth
from guisery.wearing import worn
from guisery.words import check_word

MOST_WORDS = 1024
MOST_LETTERS_TOLD = 1000


def number_of(letters, word):
    """The number of a word: its letters are figures, the first one the weightiest."""
    check_word(letters, word)
    number = 0
    for letter in word:
        number = number * letters + letter
    return number


def word_of(letters, many, number):
    """The word of so many letters that has a number."""
    if not 0 <= many <= MOST_LETTERS_TOLD:
        raise BadCount("a word of 0 to 1000 letters is told")
    lightest_first = []
    left = number
    for place in range(many):
        left, letter = divmod(left, letters)
        lightest_first.append(letter)
    # Below nought there is always something left, too: it never comes up to nought.
    if left != 0:
        raise BadCount("there is no such number on the floor")
    return tuple(lightest_first[::-1])


def words_on_floor(letters, many):
    """How many words of so many letters there are."""
    if many < 0:
        raise BadCount("a word has no fewer than 0 letters")
    count = 1
    for place in range(many):
        count = count * letters
        # Told at once, so that numbers far beyond end here as soon as others.
        if count > MOST_WORDS:
            raise TooMany("a floor has at most 1024 words")
    return count


def floor(guise, many):
    """The numbers to which the words 0, 1, .. of so many letters go."""
    letters = breadth(guise)
    count = words_on_floor(letters, many)
    return [number_of(letters, worn(guise, word_of(letters, many, number))) for number in range(count)]


def rounds(guise, word):
    """How many times the guise must be worn until the word is back."""
    letters = breadth(guise)
    check_word(letters, word)
    words_on_floor(letters, len(word))
    made = worn(guise, word)
    count = 1
    while made != word:
        made = worn(guise, made)
        count += 1
    return count


def whirls(guise, many):
    """Whether all words of so many letters are on one round."""
    count = words_on_floor(breadth(guise), many)
    return rounds(guise, (0,) * many) == count


def camps(guises, many):
    """The sets of words that lead to one another: rising lists of numbers, by their least number."""
    ways = [floor(guise, many) for guise in guises]
    seen = {}
    told = []
    for number in range(len(ways[0])):
        if number not in seen:
            camp = led_to(ways, number)
            for member in camp:
                seen[member] = True
            told.append(camp)
    return told


def led_to(ways, number):
    """The rising list of all numbers to which the ways lead from one, itself among them."""
    # A guise rearranges the floor, so whoever is led to is also led back: going forwards is enough.
    camp = [number]
    seen = {number: True}
    at = 0
    while at < len(camp):
        for way in ways:
            going = way[camp[at]]
            if going not in seen:
                seen[going] = True
                camp.append(going)
        at += 1
    return sorted(camp)
