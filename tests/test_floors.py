import unittest
from copy import deepcopy

from guisery.errors import BadCount, BadWord, TooMany
from guisery.floors import camps, floor, number_of, rounds, whirls, word_of
from guisery.joining import branched, joined
from guisery.machines import form, still

from helper import (
    BREADTHS, FAR, chain, counter, mixed, mixed_word, read, rearrangings, ring, short_words, some_guises, spoilt,
    stairs, swap, words,
)

# The most letters of which there are at most 1024 words.
GREATEST = {2: 10, 3: 6, 4: 5, 5: 4}


def slow_number(letters, word):
    return sum(letter * letters ** (len(word) - 1 - place) for place, letter in enumerate(word))


def slow_floor(guise, letters, many):
    """By the list of all words, which stands in the order of their numbers."""
    every = words(letters, many)
    return [every.index(read(guise, 0, word)) for word in every]


def slow_round(guise, word):
    made = [read(guise, 0, word)]
    while made[-1] != word:
        made.append(read(guise, 0, made[-1]))
    return len(made)


def slow_camps(guises, letters, many):
    """All words of one paint; two paints become one wherever a guise leads from the one to the other."""
    floors = [slow_floor(guise, letters, many) for guise in guises]
    paint = list(range(letters ** many))
    for way in floors:
        for number, going in enumerate(way):
            one, other = sorted((paint[number], paint[going]))
            paint = [one if held == other else held for held in paint]
    return [[number for number, held in enumerate(paint) if held == one] for one in sorted(set(paint))]


def whirling(letters):
    """A guise that whirls every floor: it adds one, the lightest letter first."""
    return counter(letters)


class Numbers(unittest.TestCase):
    def test_ordinary_ones(self):
        self.assertEqual(number_of(2, (1, 0, 1)), 5)
        self.assertEqual(number_of(3, (1, 0, 2)), 11)
        self.assertEqual(number_of(5, (4, 3)), 23)
        self.assertEqual(word_of(2, 3, 5), (1, 0, 1))
        self.assertEqual(word_of(3, 5, 11), (0, 0, 1, 0, 2))
        self.assertEqual(word_of(5, 2, 23), (4, 3))

    def test_the_empty_word(self):
        for letters in BREADTHS:
            self.assertEqual(number_of(letters, ()), 0)
            self.assertEqual(word_of(letters, 0, 0), ())
            for number in (-1, 1, letters, FAR, -FAR):
                self.assertRaises(BadCount, word_of, letters, 0, number)

    def test_leading_noughts(self):
        for letters in BREADTHS:
            last = letters - 1
            for many in (0, 1, 5, 990):
                self.assertEqual(number_of(letters, (0,) * many + (1, last)), letters + last)
                self.assertEqual(word_of(letters, many + 2, letters + last), (0,) * many + (1, last))
                self.assertEqual(number_of(letters, (0,) * many), 0)

    def test_all_short_words_in_their_order(self):
        for letters in BREADTHS:
            for many in range(GREATEST[letters]):
                every = words(letters, many)
                self.assertEqual([number_of(letters, word) for word in every], list(range(len(every))))
                self.assertEqual([word_of(letters, many, number) for number in range(len(every))], every)

    def test_there_and_back(self):
        for letters in BREADTHS:
            for many in (1, 2, 11, 64, 500, 999, 1000):
                for seed in range(3):
                    word = mixed_word(letters, many, seed)
                    number = number_of(letters, word)
                    self.assertEqual(number, slow_number(letters, word))
                    self.assertEqual(word_of(letters, many, number), word)
                    self.assertIs(type(word_of(letters, many, number)), tuple)

    def test_either_end_of_a_floor(self):
        for letters in BREADTHS:
            for many in (0, 1, 2, 10, 1000):
                size = letters ** many
                self.assertEqual(word_of(letters, many, 0), (0,) * many)
                self.assertEqual(word_of(letters, many, size - 1), (letters - 1,) * many)
                self.assertEqual(number_of(letters, (letters - 1,) * many), size - 1)
                for number in (-1, -2, -size, size, size + 1, size * letters, -FAR, letters ** 1001):
                    self.assertRaises(BadCount, word_of, letters, many, number)

    def test_how_many_letters(self):
        for letters in BREADTHS:
            self.assertEqual(len(word_of(letters, 1000, 1)), 1000)
            for many in (-1, -2, -1000, 1001, 1002, FAR, -FAR):
                for number in (0, 1, -1, FAR):
                    self.assertRaises(BadCount, word_of, letters, many, number)

    def test_what_is_no_letter(self):
        for letters in BREADTHS:
            for many in (1, 2, 3, 1000):
                for word in spoilt(mixed_word(letters, many, 3), letters):
                    self.assertRaises(BadWord, number_of, letters, word)
            self.assertEqual(number_of(letters, (letters - 1,)), letters - 1)

    def test_how_the_arguments_are_called(self):
        self.assertEqual(number_of(word=(1, 0), letters=3), 3)
        self.assertEqual(word_of(number=3, many=2, letters=3), (1, 0))


class Refusing(unittest.TestCase):
    def refuses_floors(self, letters, ask):
        """What is asked of floors is told for the greatest one, and refused beyond it and below nought."""
        for many in (0, 1, GREATEST[letters]):
            ask(many)
        for many in (GREATEST[letters] + 1, GREATEST[letters] + 2, 1000, 1001, FAR):
            self.assertRaises(TooMany, ask, many)
        for many in (-1, -2, -1000, -FAR):
            self.assertRaises(BadCount, ask, many)


class Floors(Refusing):
    def test_ordinary_ones(self):
        self.assertEqual(floor(counter(2), 2), [2, 3, 1, 0])
        self.assertEqual(floor(counter(3), 1), [1, 2, 0])
        self.assertEqual(floor(ring(2, 2), 2), [2, 3, 0, 1])
        self.assertEqual(floor(form(2, [((0, 1), (1, 0)), ((1, 0), (1, 1))]), 2), [1, 0, 2, 3])

    def test_every_word_by_hand(self):
        for letters in BREADTHS:
            for guise in some_guises(letters):
                for many in range(4):
                    told = floor(guise, many)
                    self.assertIs(type(told), list)
                    self.assertEqual(told, slow_floor(guise, letters, many))

    def test_no_letters(self):
        for letters in BREADTHS:
            for guise in some_guises(letters):
                self.assertEqual(floor(guise, 0), [0])

    def test_the_greatest_floor(self):
        for letters in BREADTHS:
            many = GREATEST[letters]
            self.assertLessEqual(letters ** many, 1024)
            self.assertGreater(letters ** (many + 1), 1024)
            for guise in (still(letters), counter(letters), mixed(letters, 60, 3)):
                told = floor(guise, many)
                self.assertEqual(told, slow_floor(guise, letters, many))
                self.assertEqual(sorted(told), list(range(letters ** many)))

    def test_floors_that_are_refused(self):
        for letters in BREADTHS:
            for guise in (still(letters), counter(letters), mixed(letters, 60, 3)):
                self.refuses_floors(letters, lambda many: floor(guise, many))

    def test_a_told_list_that_is_changed(self):
        for letters in BREADTHS:
            guise = mixed(letters, 5, 1)
            told = floor(guise, 2)
            kept = list(told)
            told.reverse()
            told.append(7)
            self.assertEqual(floor(guise, 2), kept)
            told.clear()
            self.assertEqual(floor(guise, 2), kept)

    def test_one_and_then_another(self):
        for letters in BREADTHS:
            one, other = mixed(letters, 3, 1), counter(letters)
            here, there = floor(one, 3), floor(other, 3)
            self.assertEqual(floor(joined(one, other), 3), [there[going] for going in here])

    def test_the_arguments_are_called_guise_and_many(self):
        self.assertEqual(floor(many=1, guise=counter(2)), [1, 0])


class Rounds(Refusing):
    def test_ordinary_ones(self):
        self.assertEqual(rounds(counter(2), (0, 0, 0)), 8)
        self.assertEqual(rounds(ring(2, 2), (0, 0, 0)), 2)
        self.assertEqual(rounds(still(3), (0, 1, 2)), 1)
        turning = form(3, [((1, 2, 0), (0, 0, 0))])
        self.assertEqual(rounds(turning, (2, 1)), 3)
        some_stay = form(4, [((1, 2, 0, 3), (0, 0, 0, 0))])
        self.assertEqual([rounds(some_stay, (letter,)) for letter in range(4)], [3, 3, 3, 1])

    def test_counted_by_hand(self):
        for letters in BREADTHS:
            for guise in some_guises(letters):
                for word in short_words(letters, 3):
                    told = rounds(guise, word)
                    self.assertIs(type(told), int)
                    self.assertEqual(told, slow_round(guise, word))

    def test_the_empty_word(self):
        for letters in BREADTHS:
            for guise in some_guises(letters):
                self.assertEqual(rounds(guise, ()), 1)

    def test_the_greatest_floor(self):
        for letters in BREADTHS:
            many = GREATEST[letters]
            self.assertEqual(rounds(counter(letters), (letters - 1,) * many), letters ** many)
            self.assertEqual(rounds(ring(letters, 60), (0,) * many), 2)
            guise = mixed(letters, 30, 2)
            for word in words(letters, many)[::97]:
                self.assertEqual(rounds(guise, word), slow_round(guise, word))

    def test_words_whose_floor_is_too_great(self):
        for letters in BREADTHS:
            for guise in (still(letters), counter(letters), mixed(letters, 60, 3)):
                for many in (GREATEST[letters] + 1, GREATEST[letters] + 2, 100, 1000):
                    self.assertRaises(TooMany, rounds, guise, mixed_word(letters, many, 1))

    def test_what_is_no_letter_goes_ahead(self):
        for letters in BREADTHS:
            for guise in (still(letters), counter(letters)):
                for many in (1, 2, GREATEST[letters], GREATEST[letters] + 1, 1000):
                    for word in spoilt(mixed_word(letters, many, 1), letters):
                        self.assertRaises(BadWord, rounds, guise, word)

    def test_the_arguments_are_called_guise_and_word(self):
        self.assertEqual(rounds(word=(0,), guise=counter(3)), 3)


class Whirls(Refusing):
    def test_ordinary_ones(self):
        for letters in BREADTHS:
            for many in range(GREATEST[letters] + 1):
                self.assertIs(whirls(whirling(letters), many), True)
                self.assertIs(whirls(still(letters), many), many == 0)

    def test_just_where_one_round_holds_the_whole_floor(self):
        for letters in BREADTHS:
            guises = some_guises(letters) + [mixed(letters, 2, seed) for seed in range(30)]
            guises += [form(letters, [(first, (0,) * letters)]) for first in rearrangings(letters)]
            whirled = []
            for guise in guises:
                for many in range(4):
                    told = whirls(guise, many)
                    whirled.append((many, told))
                    self.assertIs(told, slow_round(guise, (0,) * many) == letters ** many)
                    self.assertIs(told, len(slow_camps([guise], letters, many)) == 1)
            for many in (1, 2, 3):
                self.assertIn((many, True), whirled)
                self.assertIn((many, False), whirled)

    def test_one_floor_whirled_and_not_the_next(self):
        for letters in BREADTHS:
            turning = form(letters, [(tuple(range(1, letters)) + (0,), (0,) * letters)])
            self.assertEqual([whirls(turning, many) for many in range(3)], [True, True, False])
            sure = branched(tuple(range(1, letters)) + (0,), [still(letters)] * (letters - 1) + [turning])
            self.assertEqual([whirls(sure, many) for many in range(4)], [True, True, True, False])

    def test_floors_that_are_refused(self):
        for letters in BREADTHS:
            for guise in (still(letters), counter(letters), mixed(letters, 60, 3)):
                self.refuses_floors(letters, lambda many: whirls(guise, many))

    def test_the_arguments_are_called_guise_and_many(self):
        self.assertIs(whirls(many=1, guise=counter(3)), True)


class Camps(Refusing):
    def test_ordinary_ones(self):
        self.assertEqual(camps([still(2)], 2), [[0], [1], [2], [3]])
        self.assertEqual(camps([ring(2, 2)], 2), [[0, 2], [1, 3]])
        self.assertEqual(camps([counter(2)], 2), [[0, 1, 2, 3]])
        self.assertEqual(camps([ring(2, 2), ring(2, 2, (1,))], 2), [[0, 1, 2, 3]])
        self.assertEqual(camps([form(3, [((2, 1, 0), (0, 0, 0))])], 1), [[0, 2], [1]])

    def test_of_one_guise_its_rounds(self):
        for letters in BREADTHS:
            for guise in some_guises(letters):
                for many in range(4):
                    told = camps([guise], many)
                    for camp in told:
                        for number in camp[:3]:
                            self.assertEqual(rounds(guise, word_of(letters, many, number)), len(camp))
                    self.assertEqual(told, slow_camps([guise], letters, many))

    def test_of_several_by_painting(self):
        for letters in BREADTHS:
            guises = [chain(letters, 2), ring(letters, 2), mixed(letters, 3, 2, swaps=2), stairs(letters, 2)]
            guises += [still(letters), form(letters, [(swap(letters), (0,) * letters)]), chain(letters, 3)]
            for one in range(len(guises)):
                for many in range(4):
                    some = guises[one:one + 3]
                    self.assertEqual(camps(some, many), slow_camps(some, letters, many))
                    self.assertEqual(camps(some[::-1], many), slow_camps(some, letters, many))
                    self.assertEqual(camps(some * 2, many), slow_camps(some, letters, many))

    def test_rising_lists_by_their_least_number_and_all_words_once(self):
        for letters in BREADTHS:
            many = GREATEST[letters]
            for guises in ([mixed(letters, 4, 3, swaps=2)], [chain(letters, 3), ring(letters, 3)], [still(letters)]):
                told = camps(guises, many)
                self.assertIs(type(told), list)
                for camp in told:
                    self.assertIs(type(camp), list)
                    self.assertEqual(camp, sorted(camp))
                leasts = [camp[0] for camp in told]
                self.assertEqual(leasts, sorted(leasts))
                self.assertEqual(sorted(number for camp in told for number in camp), list(range(letters ** many)))

    def test_no_letters(self):
        for letters in BREADTHS:
            self.assertEqual(camps([counter(letters)], 0), [[0]])
            self.assertEqual(camps(some_guises(letters), 0), [[0]])

    def test_floors_that_are_refused(self):
        for letters in BREADTHS:
            for guises in ([still(letters)], [counter(letters), mixed(letters, 9, 3)]):
                self.refuses_floors(letters, lambda many: camps(guises, many))

    def test_the_list_handed_in_stands_as_it_did(self):
        for letters in BREADTHS:
            guises = [ring(letters, 2), chain(letters, 3)]
            held = deepcopy(guises)
            told = camps(guises, 3)
            self.assertEqual(guises, held)
            kept = deepcopy(told)
            guises.clear()
            self.assertEqual(told, kept)
            self.assertEqual(camps(held, 3), kept)

    def test_told_lists_that_are_changed(self):
        for letters in BREADTHS:
            guises = [ring(letters, 2)]
            told = camps(guises, 2)
            kept = deepcopy(told)
            told[0].append(99)
            told[1].clear()
            self.assertEqual(camps(guises, 2), kept)
            told.reverse()
            self.assertEqual(camps(guises, 2), kept)

    def test_the_arguments_are_called_guises_and_many(self):
        self.assertEqual(camps(many=1, guises=[still(2)]), [[0], [1]])


class HandedIn(unittest.TestCase):
    def test_nothing_is_changed_and_all_is_told_again_alike(self):
        def ask(letters):
            guise, word = mixed(letters, 6, 2), mixed_word(letters, 4, 2)
            held = deepcopy((guise, word))
            told = (
                number_of(letters, word), word_of(letters, 9, 77), floor(guise, 3), rounds(guise, word),
                whirls(guise, 2), camps([guise, counter(letters)], 2), camps([guise], 3),
            )
            self.assertRaises(BadCount, floor, guise, -1)
            self.assertRaises(TooMany, floor, guise, 11)
            self.assertEqual((guise, word), held)
            return told

        first = [ask(letters) for letters in BREADTHS]
        for letters in BREADTHS + BREADTHS[::-1]:
            self.assertEqual(ask(letters), first[letters - 2])
