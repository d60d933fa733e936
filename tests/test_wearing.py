import unittest
from copy import deepcopy

from guisery.errors import BadWord
from guisery.joining import back, behind, joined
from guisery.machines import form, still
from guisery.wearing import worn, worn_endless
from guisery.words import head_of, letter_at, plain_word

from helper import (
    BREADTHS, chain, counter, is_plain, is_tuples_all_through, laid_out, mixed, mixed_word, read, ring, short_words,
    slow_worn, small_endless, some_guises, spoilt, stairs, tailed_ring, told_in_ways, words,
)


class WordsWorn(unittest.TestCase):
    def test_ordinary_ones(self):
        self.assertEqual(worn(counter(2), (1, 1, 0, 1)), (0, 0, 1, 1))
        self.assertEqual(worn(counter(3), (2, 2, 0, 1)), (0, 0, 1, 1))
        self.assertEqual(worn(counter(5), (4, 3, 4)), (0, 4, 4))
        turning = form(3, [((1, 2, 0), (1, 0, 1)), ((0, 2, 1), (0, 1, 0))])
        self.assertEqual(worn(turning, (0, 1, 1, 2, 2, 0)), (1, 2, 2, 1, 0, 0))

    def test_the_empty_word(self):
        for letters in BREADTHS:
            for guise in some_guises(letters):
                self.assertEqual(worn(guise, ()), ())

    def test_one_letter(self):
        for letters in BREADTHS:
            for guise in some_guises(letters):
                self.assertEqual([worn(guise, (letter,)) for letter in range(letters)], [(made,) for made in guise[0][0]])

    def test_letter_by_letter(self):
        for letters in BREADTHS:
            for guise in some_guises(letters):
                for word in short_words(letters, 3) + [mixed_word(letters, many, many) for many in (10, 99, 999, 1000)]:
                    made = worn(guise, word)
                    self.assertEqual(made, read(guise, 0, word))
                    self.assertTrue(is_tuples_all_through(made))

    def test_a_beginnings_word_is_the_words_beginning(self):
        for letters in BREADTHS:
            for guise in some_guises(letters):
                word = mixed_word(letters, 300, 7)
                made = worn(guise, word)
                for many in (0, 1, 2, 59, 60, 61, 299):
                    self.assertEqual(worn(guise, word[:many]), made[:many])
                    self.assertEqual(worn(behind(guise, word[:many]), word[many:]), made[many:])

    def test_the_still_guise_leaves_every_word(self):
        for letters in BREADTHS:
            for word in words(letters, 3) + [mixed_word(letters, 1000, 1)]:
                self.assertEqual(worn(still(letters), word), word)

    def test_each_word_comes_of_one(self):
        for letters in BREADTHS:
            for guise in some_guises(letters):
                every = words(letters, 4)
                self.assertEqual(sorted(worn(guise, word) for word in every), every)

    def test_one_behind_the_other_and_back(self):
        for letters in BREADTHS:
            one, other = mixed(letters, 4, 1), counter(letters)
            for word in words(letters, 3) + [mixed_word(letters, 500, 2)]:
                self.assertEqual(worn(other, worn(one, word)), worn(joined(one, other), word))
                self.assertEqual(worn(back(one), worn(one, word)), word)

    def test_what_is_no_letter(self):
        for letters in BREADTHS:
            for guise in (still(letters), counter(letters), mixed(letters, 60, 3)):
                for many in (1, 2, 3, 1000):
                    for word in spoilt(mixed_word(letters, many, many), letters):
                        self.assertRaises(BadWord, worn, guise, word)
                self.assertEqual(len(worn(guise, tuple(range(letters)))), letters)

    def test_letters_of_a_wider_breadth(self):
        for letters in BREADTHS[:-1]:
            self.assertRaises(BadWord, worn, still(letters), (letters,))
            self.assertEqual(worn(still(letters + 1), (letters,)), (letters,))

    def test_the_arguments_are_called_guise_and_word(self):
        self.assertEqual(worn(word=(1, 0), guise=counter(2)), (0, 1))


class EndlessWordsWorn(unittest.TestCase):
    def test_ordinary_ones(self):
        self.assertEqual(worn_endless(counter(2), ((), (1,))), ((), (0,)))
        self.assertEqual(worn_endless(counter(2), ((), (0,))), ((1,), (0,)))
        self.assertEqual(worn_endless(counter(2), ((1, 1), (0, 1))), ((0, 0, 1), (1, 0)))
        self.assertEqual(worn_endless(ring(2, 2), ((), (0,))), ((), (1, 0)))
        self.assertEqual(worn_endless(ring(2, 3), ((), (0, 1))), ((), (1, 1, 0, 0, 0, 1)))
        for letters in BREADTHS:
            last = letters - 1
            self.assertEqual(worn_endless(counter(letters), ((), (last,))), ((), (0,)))
            self.assertEqual(worn_endless(counter(letters), ((last, last), (0,))), ((0, 0, 1), (0,)))

    def test_all_short_pairs(self):
        for letters, most in ((2, 3), (3, 2), (4, 2), (5, 1)):
            guises = [counter(letters), ring(letters, 3), chain(letters, 3), mixed(letters, 5, 4), stairs(letters, 3)]
            for guise in guises:
                for endless in small_endless(letters, most):
                    told = worn_endless(guise, endless)
                    self.assertEqual(told, slow_worn(guise, endless))
                    self.assertTrue(is_plain(told))
                    self.assertTrue(is_tuples_all_through(told))

    def test_against_the_ring_read_again_and_again(self):
        for letters in BREADTHS:
            guises = some_guises(letters) + [tailed_ring(letters, 4, 7), tailed_ring(letters, 20, 40)]
            for guise in guises:
                for many, size in ((0, 1), (1, 1), (0, 7), (5, 12), (59, 61), (1000, 1), (0, 1000), (1000, 999)):
                    endless = (mixed_word(letters, many, 1), mixed_word(letters, size, 2))
                    told = worn_endless(guise, endless)
                    self.assertEqual(told, slow_worn(guise, endless))
                    self.assertEqual(len(told), 2)

    def test_sixty_laps(self):
        for letters in BREADTHS:
            for size in (7, 997):
                endless = ((), mixed_word(letters, size - 1, 3) + (0,))
                told = worn_endless(ring(letters, 60), endless)
                self.assertEqual(told, slow_worn(ring(letters, 60), endless))
                self.assertEqual(len(told[0]), 0)
                self.assertEqual(len(told[1]), 60 * size)

    def test_told_plain_however_it_is_handed_in(self):
        for letters in BREADTHS:
            for guise in (still(letters), counter(letters), ring(letters, 4), mixed(letters, 6, 5)):
                for seed in range(4):
                    endless = (mixed_word(letters, seed, seed), mixed_word(letters, 1 + 2 * seed, seed + 9))
                    told = worn_endless(guise, plain_word(*endless))
                    self.assertTrue(is_plain(told))
                    for other in told_in_ways(endless):
                        self.assertEqual(worn_endless(guise, other), told)

    def test_the_still_guise_makes_it_plain(self):
        for letters in BREADTHS:
            last = letters - 1
            self.assertEqual(worn_endless(still(letters), ((0, last), (0, last, 0, last))), ((), (0, last)))
            self.assertEqual(worn_endless(still(letters), ((0,) * 1000, (0,) * 1000)), ((), (0,)))

    def test_a_word_that_gets_a_beginning_or_loses_it(self):
        for letters in BREADTHS:
            last = letters - 1
            for many in (1, 7, 60):
                told = worn_endless(chain(letters, many), ((), (0,)))
                self.assertEqual(told, ((0,) * (many - 1), (1,)))
                self.assertEqual(worn_endless(back(chain(letters, many)), told), ((), (0,)))
            self.assertEqual(worn_endless(counter(letters), ((last - 1,), (last,))), ((), (last,)))
            self.assertEqual(worn_endless(counter(letters), ((last,), (0,))), ((0, 1), (0,)))

    def test_the_first_letters_are_the_first_letters_worn(self):
        for letters in BREADTHS:
            for guise in some_guises(letters):
                for many, size in ((0, 1), (3, 5), (40, 33), (250, 3)):
                    endless = (mixed_word(letters, many, 4), mixed_word(letters, size, 5))
                    told = worn_endless(guise, endless)
                    self.assertEqual(head_of(told, 200), worn(guise, laid_out(endless, 200)))

    def test_one_behind_the_other_is_both_joined(self):
        for letters in BREADTHS:
            guises = [counter(letters), ring(letters, 4), mixed(letters, 4, 1), chain(letters, 6)]
            for one in guises:
                for other in guises:
                    for endless in (((), (0,)), (mixed_word(letters, 5, 6), mixed_word(letters, 8, 7))):
                        told = worn_endless(other, worn_endless(one, endless))
                        self.assertEqual(told, worn_endless(joined(one, other), endless))

    def test_worn_and_then_its_way_back(self):
        for letters in BREADTHS:
            for guise in some_guises(letters):
                for many, size in ((0, 1), (3, 5), (12, 17)):
                    endless = (mixed_word(letters, many, 8), mixed_word(letters, size, 9))
                    plain = plain_word(*endless)
                    self.assertEqual(worn_endless(back(guise), worn_endless(guise, endless)), plain)
                    self.assertEqual(worn_endless(guise, worn_endless(back(guise), endless)), plain)

    def test_far_letters(self):
        for letters in BREADTHS:
            guise = ring(letters, 60)
            told = worn_endless(guise, ((), (0,) * 7))
            self.assertEqual([letter_at(told, 60 * 10 ** 30 + step) for step in (-1, 0, 1)], [0, 1, 0])

    def test_what_is_no_letter(self):
        for letters in BREADTHS:
            for guise in (still(letters), counter(letters), mixed(letters, 60, 3)):
                for many in (1, 3, 1000):
                    good = mixed_word(letters, many, many)
                    for word in spoilt(good, letters):
                        self.assertRaises(BadWord, worn_endless, guise, (word, good))
                        self.assertRaises(BadWord, worn_endless, guise, (good, word))
                        self.assertRaises(BadWord, worn_endless, guise, ((), word))

    def test_no_ring(self):
        for letters in BREADTHS:
            for guise in (still(letters), counter(letters), mixed(letters, 60, 3)):
                for beginning in ((), (0,), (letters - 1,) * 1000, (letters,), (-1,)):
                    self.assertRaises(BadWord, worn_endless, guise, (beginning, ()))

    def test_the_arguments_are_called_guise_and_endless(self):
        self.assertEqual(worn_endless(endless=((), (0,)), guise=counter(2)), ((1,), (0,)))


class HandedIn(unittest.TestCase):
    def test_nothing_is_changed_and_all_is_told_again_alike(self):
        def ask(letters):
            guise, word = mixed(letters, 6, 2), mixed_word(letters, 9, 2)
            endless = (word[:4], word[4:] * 2)
            held = deepcopy((guise, word, endless))
            told = (worn(guise, word), worn_endless(guise, endless))
            self.assertRaises(BadWord, worn, guise, (letters,))
            self.assertRaises(BadWord, worn_endless, guise, (word, ()))
            self.assertEqual((guise, word, endless), held)
            return told

        first = [ask(letters) for letters in BREADTHS]
        for letters in BREADTHS + BREADTHS[::-1]:
            self.assertEqual(ask(letters), first[letters - 2])
