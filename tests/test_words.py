import unittest
from copy import deepcopy

from guisery.errors import BadCount, BadWord
from guisery.words import alike_for, head_of, letter_at, plain_word

from helper import (
    BREADTHS, FAR, is_plain, is_tuples_all_through, laid_out, late_letters, mixed_word, small_endless, told_in_ways, words,
)


class PlainWords(unittest.TestCase):
    def test_rings_that_are_a_shorter_word_several_times(self):
        self.assertEqual(plain_word((), (1, 1)), ((), (1,)))
        self.assertEqual(plain_word((), (0, 1, 0, 1, 0, 1)), ((), (0, 1)))
        for letters in BREADTHS:
            last = letters - 1
            for ring in ((last,), (0, last), (0, 0, last), (last, 0, 0, last, 0)):
                unlike = 0 if ring[-1] == last else last
                for many in (1, 2, 3, 4, 7, 100):
                    self.assertEqual(plain_word((), ring * many), ((), ring))
                    self.assertEqual(plain_word((unlike,), ring * many), ((unlike,), ring))

    def test_rings_that_are_nearly_a_shorter_word_several_times(self):
        for letters in BREADTHS:
            last = letters - 1
            for ring in ((0, 0, 0, last), (0, last, 0), (0, last, 0, last, 0), (last, 0, last, 0, last, last)):
                self.assertEqual(plain_word((), ring), ((), ring))
                self.assertEqual(plain_word((), ring * 2), ((), ring))

    def test_beginnings_that_end_like_the_ring(self):
        self.assertEqual(plain_word((0,), (0,)), ((), (0,)))
        self.assertEqual(plain_word((1, 1), (0, 1)), ((1,), (1, 0)))
        for letters in BREADTHS:
            last = letters - 1
            self.assertEqual(plain_word((0, 0, last), (0, 0, 0, last)), ((), (0, 0, last, 0)))
            self.assertEqual(plain_word((last, last), (0, last)), ((last,), (last, 0)))
            self.assertEqual(plain_word((0, 0, last), (last, 0, last)), ((0,), (0, last, last)))
            self.assertEqual(plain_word((last, 0, 0, last), (0, 0, last)), ((), (last, 0, 0)))

    def test_beginnings_that_end_with_the_ring_more_than_once(self):
        for letters in BREADTHS:
            last = letters - 1
            self.assertEqual(plain_word((0, last, 0, last, 0, last), (0, last)), ((), (0, last)))
            self.assertEqual(plain_word((last, 0, last, 0, last), (0, last)), ((), (last, 0)))
            self.assertEqual(plain_word((last, 0, 0, last, 0, last), (0, last)), ((last, 0), (0, last)))
            self.assertEqual(plain_word((0,) + (last,) * 50, (last,) * 3), ((0,), (last,)))
            self.assertEqual(plain_word((last,) + (0, 0, last) * 4, (0, 0, last) * 2), ((), (last, 0, 0)))

    def test_plain_ones_stay(self):
        for letters in BREADTHS:
            last = letters - 1
            for endless in (((), (0,)), ((0,), (last,)), ((last, last, 0), (0, last)), ((0, last), (last, last, 0))):
                self.assertEqual(plain_word(*endless), endless)

    def test_all_short_pairs(self):
        for letters, most in ((2, 5), (3, 3), (4, 2), (5, 2)):
            plain = {}
            for beginning, ring in small_endless(letters, most):
                told = plain_word(beginning, ring)
                self.assertTrue(is_tuples_all_through(told))
                self.assertEqual(len(told), 2)
                self.assertTrue(is_plain(told))
                self.assertEqual(plain_word(*told), told)
                # So many letters tell any two of these words apart.
                head = laid_out((beginning, ring), 3 * most)
                self.assertEqual(laid_out(told, 3 * most), head)
                self.assertEqual(plain.setdefault(head, told), told)

    def test_one_endless_word_told_in_several_ways(self):
        for letters in BREADTHS:
            for seed in range(12):
                beginning, ring = mixed_word(letters, seed % 5, seed), mixed_word(letters, 1 + seed % 7, seed + 30)
                told = plain_word(beginning, ring)
                self.assertTrue(is_plain(told))
                for longer, turned_ring in told_in_ways((beginning, ring)):
                    self.assertEqual(plain_word(longer, turned_ring), told)

    def test_up_to_a_thousand_letters(self):
        for letters in BREADTHS:
            last = letters - 1
            ring = (0,) * 499 + (last,)
            self.assertEqual(plain_word((), ring * 2), ((), ring))
            self.assertEqual(plain_word(ring * 2, ring * 2), ((), ring))
            self.assertEqual(plain_word(ring * 2, (0,) * 1000), (ring * 2, (0,)))
            self.assertEqual(plain_word((last,) + (0,) * 999, (0,) * 1000), ((last,), (0,)))
            self.assertEqual(plain_word((0,) * 1000, (0,) * 1000), ((), (0,)))
            ring = (0,) * 999 + (last,)
            self.assertEqual(plain_word((0,) * 999 + (last,), ring), ((), ring))
            self.assertEqual(plain_word((last,) * 1000, ring), ((last,) * 999, (last,) + (0,) * 999))
            self.assertEqual(plain_word((last,) + (0,) * 998 + (last,), ring), ((last,), (0,) * 998 + (last, 0)))

    def test_no_ring(self):
        for letters in BREADTHS:
            for beginning in ((), (0,), (letters - 1, 0), (0,) * 1000):
                self.assertRaises(BadWord, plain_word, beginning, ())

    def test_the_arguments_are_called_beginning_and_ring(self):
        self.assertEqual(plain_word(ring=(1, 0), beginning=(0,)), ((), (0, 1)))


class LettersOfWords(unittest.TestCase):
    def test_in_the_beginning_and_in_the_ring(self):
        endless = ((0, 1, 0), (1, 1, 0, 0))
        self.assertEqual([letter_at(endless, place) for place in range(12)], [0, 1, 0, 1, 1, 0, 0, 1, 1, 0, 0, 1])
        for letters in BREADTHS:
            for many, size in ((0, 1), (0, 5), (1, 1), (4, 3), (7, 12)):
                endless = (mixed_word(letters, many, 1), mixed_word(letters, size, 2))
                laid = laid_out(endless, 60)
                self.assertEqual(tuple(letter_at(endless, place) for place in range(60)), laid)

    def test_at_the_beginnings_end(self):
        for letters in BREADTHS:
            last = letters - 1
            for many in (1, 2, 1000):
                endless = ((0,) * (many - 1) + (last,), (0, last))
                self.assertEqual([letter_at(endless, many + step) for step in (-1, 0, 1, 2)], [last, 0, last, 0])

    def test_a_word_that_is_not_plain(self):
        for letters in BREADTHS:
            last = letters - 1
            endless = ((0, last, last), (0, last, 0, last))
            self.assertEqual(tuple(letter_at(endless, place) for place in range(9)), laid_out(endless, 9))

    def test_places_far_off(self):
        for letters in BREADTHS:
            last = letters - 1
            self.assertEqual(letter_at(((), (0, last)), FAR), 0)
            self.assertEqual(letter_at(((), (0, last)), FAR + 1), last)
            self.assertEqual(letter_at(((0,), (0, last)), FAR), last)
            ring = mixed_word(letters, 997, 8)
            for many in (0, 3, 1000):
                endless = ((last,) * many, ring)
                for place in (10 ** 9, 10 ** 18 + 5, 2 ** 64, 2 ** 64 - 1, FAR):
                    self.assertEqual(letter_at(endless, place), ring[(place - many) % 997])

    def test_places_below_nought(self):
        for letters in BREADTHS:
            for endless in (((), (0,)), ((0, letters - 1), (1, 0, letters - 1))):
                for place in (-1, -2, -1000, -FAR):
                    self.assertRaises(BadCount, letter_at, endless, place)
                self.assertEqual(letter_at(endless, 0), 0)

    def test_the_arguments_are_called_endless_and_place(self):
        self.assertEqual(letter_at(place=1, endless=((0,), (1,))), 1)


class FirstLetters(unittest.TestCase):
    def test_so_many_letters(self):
        self.assertEqual(head_of(((0, 1), (1, 0, 0)), 9), (0, 1, 1, 0, 0, 1, 0, 0, 1))
        for letters in BREADTHS:
            for many, size in ((0, 1), (0, 5), (1, 1), (4, 3), (1000, 7), (1000, 1000)):
                endless = (mixed_word(letters, many, 5), mixed_word(letters, size, 6))
                for head in (0, 1, 2, 3, 7, 8, 999, 1000, 1001, 1999, 2000):
                    told = head_of(endless, head)
                    self.assertEqual(told, laid_out(endless, head))
                    self.assertTrue(is_tuples_all_through(told))

    def test_counts_that_are_out_of_bounds(self):
        for letters in BREADTHS:
            endless = ((0, letters - 1), (1, 0))
            self.assertEqual(head_of(endless, 0), ())
            self.assertEqual(len(head_of(endless, 2000)), 2000)
            for many in (-1, -2, -2000, 2001, 2002, 10 ** 9, FAR, -FAR):
                self.assertRaises(BadCount, head_of, endless, many)

    def test_the_arguments_are_called_endless_and_many(self):
        self.assertEqual(head_of(many=2, endless=((0,), (1,))), (0, 1))


class Alike(unittest.TestCase):
    def are_alike_for(self, one, other, many):
        self.assertEqual(alike_for(one, other), many)
        self.assertEqual(alike_for(other, one), many)
        if many is not None:
            self.assertEqual(laid_out(one, many), laid_out(other, many))
            self.assertNotEqual(laid_out(one, many + 1), laid_out(other, many + 1))

    def test_parted_in_the_beginning(self):
        for letters in BREADTHS:
            last = letters - 1
            self.are_alike_for(((0,), (0,)), ((last,), (0,)), 0)
            self.are_alike_for(((), (0,)), ((), (last,)), 0)
            self.are_alike_for(((0, 1, 0, 0), (1,)), ((0, 1, last, 0), (1,)), 2)
            self.are_alike_for(((0,) * 999 + (last,), (1,)), ((0,) * 1000, (1,)), 999)

    def test_parted_at_a_beginnings_end(self):
        for letters in BREADTHS:
            last = letters - 1
            self.are_alike_for(((0, 0), (last,)), ((0, 0, 0), (last,)), 2)
            self.are_alike_for(((0, 0), (0, last)), ((0, 0), (last, 0)), 2)
            self.are_alike_for(((0, last), (0,)), ((), (0, last)), 3)
            self.are_alike_for(((0,) * 1000, (last,)), ((), (0,)), 1000)
            self.are_alike_for(((0,) * 1000, (last,)), ((0,) * 999, (last,)), 999)

    def test_parted_in_a_ring(self):
        for letters in BREADTHS:
            last = letters - 1
            self.are_alike_for(((), (0, 0, last)), ((), (0, 0, 0, last)), 2)
            self.are_alike_for(((last,), (0, 0, last)), ((last, 0), (0, last, last)), 4)
            self.are_alike_for(((), (0,) * 999 + (last,)), ((), (0,)), 999)
            self.are_alike_for(((0,) * 1000, (0,) * 999 + (last,)), ((), (0,)), 1999)

    def test_parted_late_behind_both_rings(self):
        for letters in BREADTHS:
            last = letters - 1
            for one, other in ((2, 3), (3, 5), (7, 4), (89, 100), (899, 1000), (999, 1000), (1000, 997)):
                late = tuple(last * letter for letter in late_letters(one, other))
                self.are_alike_for(((), late[:one]), ((), late[:other]), one + other - 2)
                begin = mixed_word(letters, 1000, one)
                self.are_alike_for((begin, late[:one]), (begin, late[:other]), 1000 + one + other - 2)
                ahead, cut = late[:100 % one], 100 % one
                turned_ring = late[cut:one] + late[:cut]
                self.are_alike_for((ahead, turned_ring), ((), late[:other]), one + other - 2)

    def test_the_same_word_told_in_two_ways(self):
        for letters in BREADTHS:
            for seed in range(6):
                endless = (mixed_word(letters, seed, seed), mixed_word(letters, 1 + seed, seed + 9))
                self.are_alike_for(endless, endless, None)
                self.are_alike_for(endless, plain_word(*endless), None)
                for other in told_in_ways(endless):
                    self.are_alike_for(endless, other, None)
            ring = mixed_word(letters, 500, 3)
            self.are_alike_for(((), ring), (ring * 2, ring * 2), None)
            self.are_alike_for(((), (0,) * 899), ((0,) * 1000, (0,) * 1000), None)

    def test_all_short_pairs(self):
        for letters, most in ((2, 3), (3, 2), (4, 2), (5, 1)):
            every = small_endless(letters, most)[:70] + small_endless(letters, most)[-30:]
            for one in every:
                for other in every:
                    here, there = laid_out(one, 3 * most), laid_out(other, 3 * most)
                    unlike = [place for place in range(3 * most) if here[place] != there[place]]
                    self.are_alike_for(one, other, unlike[0] if unlike else None)

    def test_the_arguments_are_called_one_and_other(self):
        self.assertEqual(alike_for(other=((), (0,)), one=((0,), (1,))), 1)


class HandedIn(unittest.TestCase):
    def test_nothing_is_changed_and_all_is_told_again_alike(self):
        for letters in BREADTHS:
            one = (mixed_word(letters, 9, 1) + (0,), (letters - 1, 0) * 3)
            other = ((), words(letters, 3)[5] + (0,))
            held = deepcopy((one, other))

            def ask():
                return (
                    plain_word(*one), plain_word(*other), letter_at(one, 12), head_of(one, 30), head_of(other, 30),
                    alike_for(one, other), alike_for(one, one),
                )

            told = ask()
            self.assertRaises(BadCount, letter_at, one, -1)
            self.assertRaises(BadCount, head_of, one, -1)
            self.assertRaises(BadWord, plain_word, one[0], ())
            self.assertEqual(ask(), told)
            self.assertEqual((one, other), held)
