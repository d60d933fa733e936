import unittest
from copy import deepcopy

from guisery.errors import BadCount, BadWord, TooMany
from guisery.joining import back, behind, branched, joined, times
from guisery.machines import form, still

from helper import (
    BREADTHS, FAR, chain, changing, counter, is_tuples_all_through, machine_back, mixed, mixed_word, pair_machine, read,
    rearrangings, ring, short_words, slow_form, some_guises, stairs, swap, tailed_ring, words,
)


class Joined(unittest.TestCase):
    def test_ordinary_ones(self):
        self.assertEqual(
            joined(counter(2), counter(2)),
            (((0, 1), (1, 1)), ((1, 0), (2, 1)), ((0, 1), (2, 2))),
        )
        self.assertEqual(
            joined((((1, 2, 0), (0, 0, 0)),), (((0, 2, 1), (0, 0, 0)),)),
            (((2, 1, 0), (0, 0, 0)),),
        )
        self.assertEqual(
            joined((((0, 2, 1), (0, 0, 0)),), (((1, 2, 0), (0, 0, 0)),)),
            (((1, 0, 2), (0, 0, 0)),),
        )

    def test_against_a_machine_of_all_pairs_of_rows(self):
        for letters in BREADTHS:
            guises = [mixed(letters, 1 + seed % 5, seed, swaps=2 + seed % 3) for seed in range(9)]
            guises += [counter(letters), ring(letters, 4), chain(letters, 3), stairs(letters, 4)]
            for one in guises:
                for other in guises:
                    told = joined(one, other)
                    self.assertEqual(told, slow_form(pair_machine(one, other)))
                    self.assertTrue(is_tuples_all_through(told))

    def test_word_by_word(self):
        for letters in BREADTHS:
            guises = [mixed(letters, 3, 1), mixed(letters, 6, 2), counter(letters), stairs(letters, 3)]
            for one in guises:
                for other in guises:
                    told = joined(one, other)
                    for word in words(letters, 4):
                        self.assertEqual(read(told, 0, word), read(other, 0, read(one, 0, word)))

    def test_the_other_way_about(self):
        for letters in BREADTHS:
            for one, other in (
                (counter(letters), branched(swap(letters), [still(letters)] * letters)),
                (mixed(letters, 4, 5), mixed(letters, 5, 6)),
                (stairs(letters, 3), counter(letters)),
            ):
                self.assertNotEqual(joined(one, other), joined(other, one))
                self.assertEqual(joined(other, one), slow_form(pair_machine(other, one)))

    def test_the_still_guise_adds_nothing(self):
        for letters in BREADTHS:
            for guise in some_guises(letters):
                self.assertEqual(joined(guise, still(letters)), guise)
                self.assertEqual(joined(still(letters), guise), guise)

    def test_three_one_by_one(self):
        for letters in BREADTHS:
            one, other, third = counter(letters), mixed(letters, 2, 3), chain(letters, 3)
            self.assertEqual(joined(joined(one, other), third), joined(one, joined(other, third)))

    def test_forms_of_just_sixty_rows_are_told(self):
        for letters in BREADTHS:
            told = joined(ring(letters, 4), ring(letters, 15))
            self.assertEqual(len(told), 60)
            self.assertEqual(told, ring(letters, 60, [place for place in range(60) if (place % 4 == 0) != (place % 15 == 0)]))
            self.assertEqual(len(joined(chain(letters, 31), ring(letters, 30))), 60)
            self.assertEqual(len(joined(ring(letters, 30), chain(letters, 31))), 60)

    def test_forms_of_more_than_sixty_rows_are_refused(self):
        for letters in BREADTHS:
            for one, other in (
                (chain(letters, 32), ring(letters, 30)),
                (ring(letters, 7), ring(letters, 9)),
                (ring(letters, 59), ring(letters, 60)),
                (mixed(letters, 60, 1), mixed(letters, 60, 2)),
                (mixed(letters, 40, 1), mixed(letters, 40, 1)),
            ):
                self.assertRaises(TooMany, joined, one, other)
                self.assertRaises(TooMany, joined, other, one)

    def test_many_pairs_of_rows_and_few_rows(self):
        for letters in BREADTHS:
            for guise in some_guises(letters):
                undo = form(letters, machine_back(guise))
                self.assertEqual(joined(guise, undo), still(letters))
            left, right = ring(letters, 4), ring(letters, 15)
            both = joined(left, right)
            self.assertEqual(joined(both, left), right)
            self.assertEqual(joined(both, right), left)

    def test_the_arguments_are_called_one_and_other(self):
        one, other = counter(2), ring(2, 2)
        self.assertEqual(joined(other=other, one=one), joined(one, other))


class Back(unittest.TestCase):
    def test_ordinary_ones(self):
        self.assertEqual(back(counter(2)), (((1, 0), (0, 1)), ((0, 1), (1, 1))))
        self.assertEqual(
            back(counter(3)),
            (((2, 0, 1), (0, 1, 1)), ((0, 1, 2), (1, 1, 1))),
        )
        self.assertEqual(
            back((((1, 2, 0), (1, 2, 0)), ((0, 1, 2), (1, 1, 1)), ((0, 2, 1), (2, 2, 2)))),
            (((2, 0, 1), (0, 1, 2)), ((0, 1, 2), (1, 1, 1)), ((0, 2, 1), (2, 2, 2))),
        )

    def test_rows_are_numbered_anew(self):
        guise = (((1, 2, 0), (1, 2, 0)), ((0, 1, 2), (1, 1, 1)), ((0, 2, 1), (2, 2, 2)))
        turned = (((2, 1, 0), (1, 2, 0)), ((0, 1, 2), (1, 1, 1)), ((0, 2, 1), (2, 2, 2)))
        self.assertEqual(back(turned), (((2, 1, 0), (0, 1, 2)), ((0, 2, 1), (1, 1, 1)), ((0, 1, 2), (2, 2, 2))))
        self.assertEqual(back(back(guise)), guise)

    def test_against_the_machine_turned_back(self):
        for letters in BREADTHS:
            for seed in range(12):
                guise = mixed(letters, 1 + seed, seed, swaps=2 + seed % 4)
                self.assertEqual(back(guise), slow_form(machine_back(guise)))
                self.assertTrue(is_tuples_all_through(back(guise)))

    def test_each_word_back_to_the_one_that_it_came_of(self):
        for letters in BREADTHS:
            for guise in some_guises(letters):
                turned = back(guise)
                for word in short_words(letters, 4) + [mixed_word(letters, 200, seed) for seed in range(3)]:
                    self.assertEqual(read(turned, 0, read(guise, 0, word)), word)
                    self.assertEqual(read(guise, 0, read(turned, 0, word)), word)

    def test_twice_is_the_guise_itself(self):
        for letters in BREADTHS:
            for guise in some_guises(letters):
                self.assertEqual(back(back(guise)), guise)
                self.assertEqual(len(back(guise)), len(guise))

    def test_joined_with_it_either_way_about(self):
        for letters in BREADTHS:
            for guise in some_guises(letters):
                self.assertEqual(joined(guise, back(guise)), still(letters))
                self.assertEqual(joined(back(guise), guise), still(letters))

    def test_joined_ones_turned_back(self):
        for letters in BREADTHS:
            one, other = mixed(letters, 3, 8), counter(letters)
            self.assertEqual(back(joined(one, other)), joined(back(other), back(one)))

    def test_its_argument_is_called_guise(self):
        self.assertEqual(back(guise=still(3)), still(3))


class Behind(unittest.TestCase):
    def test_ordinary_ones(self):
        for letters in BREADTHS:
            last = letters - 1
            self.assertEqual(behind(counter(letters), (0,)), still(letters))
            self.assertEqual(behind(counter(letters), (last, last)), counter(letters))
            self.assertEqual(behind(counter(letters), (last, 0, last)), still(letters))
            for many in range(60):
                self.assertEqual(behind(chain(letters, 60), (last,) * many), chain(letters, 60 - many))
            self.assertEqual(behind(ring(letters, 60), (0,) * 60), ring(letters, 60))
            self.assertEqual(behind(ring(letters, 60), (0, 1)), ring(letters, 60, (58,)))

    def test_the_empty_word(self):
        for letters in BREADTHS:
            for guise in some_guises(letters):
                self.assertEqual(behind(guise, ()), guise)

    def test_one_letter_against_the_machine_begun_elsewhere(self):
        for letters in BREADTHS:
            for seed in range(8):
                guise = mixed(letters, 8, seed, swaps=2)
                for letter in range(letters):
                    told = behind(guise, (letter,))
                    begin = guise[0][1][letter]
                    moved = [(one, tuple(going + 1 for going in goings)) for one, goings in guise]
                    self.assertEqual(told, slow_form([moved[begin]] + moved))
                    self.assertTrue(is_tuples_all_through(told))

    def test_it_does_what_the_guise_does_to_what_follows(self):
        for letters in BREADTHS:
            for guise in some_guises(letters):
                for many in (1, 2, 3, 10, 100, 999, 1000):
                    word = mixed_word(letters, many, many)
                    told = behind(guise, word)
                    for follows in words(letters, 3):
                        self.assertEqual(read(told, 0, follows), read(guise, 0, word + follows)[many:])

    def test_behind_one_word_and_then_another(self):
        for letters in BREADTHS:
            for guise in some_guises(letters):
                for one, other in ((0, 1), (1, 0), (1, 1), (3, 4), (0, 1000), (500, 500), (999, 1)):
                    ahead, then = mixed_word(letters, one, 3), mixed_word(letters, other, 4)
                    self.assertEqual(behind(behind(guise, ahead), then), behind(guise, ahead + then))

    def test_what_is_no_letter(self):
        for letters in BREADTHS:
            for guise in (still(letters), counter(letters), mixed(letters, 20, 1)):
                for wrong in (letters, letters + 1, 10, FAR, -1, -letters, -letters - 1, -FAR):
                    self.assertRaises(BadWord, behind, guise, (wrong,))
                    for many in (2, 3, 1000):
                        word = mixed_word(letters, many, 2)
                        for at in (0, many // 2, many - 1):
                            self.assertRaises(BadWord, behind, guise, word[:at] + (wrong,) + word[at + 1:])

    def test_each_letter_is_one(self):
        for letters in BREADTHS:
            self.assertEqual(behind(still(letters), tuple(range(letters))), still(letters))

    def test_the_arguments_are_called_guise_and_word(self):
        self.assertEqual(behind(word=(0,), guise=counter(2)), still(2))


class Branched(unittest.TestCase):
    def test_ordinary_ones(self):
        self.assertEqual(branched((1, 0), [still(2), counter(2)]), (((1, 0), (1, 0)), ((0, 1), (1, 1))))
        self.assertEqual(branched((0, 1), [counter(2), still(2)]), (((0, 1), (1, 2)), counter(2)[0][:1] + ((2, 1),), ((0, 1), (2, 2))))
        for letters in BREADTHS:
            self.assertEqual(branched(tuple(range(letters)), [still(letters)] * letters), still(letters))
            self.assertEqual(branched(tuple(range(letters)), [chain(letters, 4)] * letters), chain(letters, 5))

    def test_behind_each_letter_its_guise(self):
        for letters in BREADTHS:
            for first in rearrangings(letters)[::5]:
                guises = [mixed(letters, 1 + 2 * letter, letter) for letter in range(letters)]
                told = branched(first, guises)
                self.assertTrue(is_tuples_all_through(told))
                self.assertEqual(form(letters, list(told)), told)
                self.assertEqual(told[0][0], first)
                for letter in range(letters):
                    self.assertEqual(behind(told, (letter,)), guises[letter])
                for word in words(letters, 3):
                    made = (first[word[0]],) + read(guises[word[0]], 0, word[1:])
                    self.assertEqual(read(told, 0, word), made)

    def test_of_its_own_sections_it_is_the_guise(self):
        for letters in BREADTHS:
            for guise in some_guises(letters):
                sections = [behind(guise, (letter,)) for letter in range(letters)]
                self.assertEqual(branched(guise[0][0], sections), guise)

    def test_one_guise_for_several_letters(self):
        for letters in BREADTHS:
            guise = chain(letters, 7)
            told = branched(swap(letters), [guise] * letters)
            self.assertEqual(told[0], (swap(letters), (1,) * letters))
            self.assertEqual(len(told), 8)
            told = branched(swap(letters), [guise] * (letters - 1) + [still(letters)])
            for letter in range(letters - 1):
                self.assertEqual(behind(told, (letter,)), guise)
            self.assertEqual(behind(told, (letters - 1,)), still(letters))

    def test_the_list_handed_in_stands_as_it_did(self):
        for letters in BREADTHS:
            guises = [mixed(letters, 3, letter) for letter in range(letters)]
            held = deepcopy(guises)
            told = branched(swap(letters), guises)
            kept = deepcopy(told)
            self.assertEqual(guises, held)
            guises.reverse()
            guises.clear()
            self.assertEqual(told, kept)
            self.assertEqual(branched(swap(letters), held), kept)
            many = [ring(letters, 60)] * letters
            self.assertRaises(TooMany, branched, swap(letters), many)
            self.assertEqual(many, [ring(letters, 60)] * letters)

    def test_forms_of_just_sixty_rows_are_told(self):
        for letters in BREADTHS:
            leave = tuple(range(letters))
            self.assertEqual(branched(leave, [chain(letters, 59)] * letters), chain(letters, 60))
            self.assertEqual(branched(swap(letters), [ring(letters, 60, (59,))] * letters), ring(letters, 60))
            parts = [ring(letters, 29)] + [ring(letters, 30)] * (letters - 1)
            self.assertEqual(len(branched(leave, parts)), 60)

    def test_forms_of_more_than_sixty_rows_are_refused(self):
        for letters in BREADTHS:
            leave = tuple(range(letters))
            for first, guises in (
                (leave, [chain(letters, 60)] * letters),
                (leave, [ring(letters, 60, (59,))] * letters),
                (leave, [ring(letters, 30)] * (letters - 1) + [ring(letters, 31)]),
                (swap(letters), [mixed(letters, 60, letter) for letter in range(letters)]),
            ):
                self.assertRaises(TooMany, branched, first, guises)

    def test_branches_that_share_their_rows(self):
        for letters in BREADTHS:
            leave = tuple(range(letters))
            told = branched(leave, [ring(letters, 59, (58 - letter,)) for letter in range(letters)])
            self.assertEqual(len(told), 60)
            told = branched(leave, [chain(letters, 59 - 7 * letter) for letter in range(letters)])
            self.assertEqual(len(told), 60)

    def test_the_arguments_are_called_first_and_guises(self):
        self.assertEqual(branched(guises=[still(2), counter(2)], first=(1, 0)), counter(2))


class Times(unittest.TestCase):
    def one_by_one(self, guise, most):
        told = still(len(guise[0][0]))
        for many in range(most + 1):
            self.assertEqual(times(guise, many), told)
            self.assertEqual(times(guise, -many), back(told))
            told = joined(told, guise)

    def test_one_by_one_against_joined(self):
        for letters in BREADTHS:
            for guise in (
                still(letters), counter(letters), chain(letters, 5), ring(letters, 9),
                form(letters, [(rearrangings(letters)[-2], (0,) * letters)]),
                changing(letters, ring(letters, 3), chain(letters, 4)),
            ):
                self.one_by_one(guise, 12)

    def test_up_to_sixty_four_times(self):
        for letters in BREADTHS:
            guise = counter(letters)
            told = still(letters)
            for many in range(1, 65):
                told = joined(guise, told)
                if many in (1, 2, 3, 31, 32, 63, 64):
                    self.assertEqual(times(guise, many), told)
                    self.assertEqual(times(guise, -many), back(told))
            for many in (-64, -2, -1, 0, 1, 2, 64):
                self.assertTrue(is_tuples_all_through(times(guise, many)))

    def test_a_counter_counts(self):
        for letters, size in ((2, 8), (3, 5), (4, 4), (5, 4)):
            for many in (-64, -63, -2, -1, 0, 1, 2, 17, 64):
                told = times(counter(letters), many)
                for word in words(letters, size)[::3]:
                    number = sum(letter * letters ** place for place, letter in enumerate(word))
                    made = sum(letter * letters ** place for place, letter in enumerate(read(told, 0, word)))
                    self.assertEqual(made, (number + many) % letters ** size)

    def test_nought_times_and_once_and_once_back(self):
        for letters in BREADTHS:
            for guise in some_guises(letters):
                self.assertEqual(times(guise, 0), still(letters))
                self.assertEqual(times(guise, 1), guise)
                self.assertEqual(times(guise, -1), back(guise))

    def test_sixty_rows_all_the_way(self):
        for letters in BREADTHS:
            guise = ring(letters, 60)
            for many in (-64, -2, 0, 2, 64):
                self.assertEqual(times(guise, many), still(letters))
            for many in (-63, -1, 1, 63):
                self.assertEqual(times(guise, many), guise)

    def test_counts_that_are_out_of_bounds(self):
        for letters in BREADTHS:
            for guise in (still(letters), counter(letters), ring(letters, 60)):
                for many in (-65, 65, -66, 66, 128, -128, FAR, -FAR):
                    self.assertRaises(BadCount, times, guise, many)

    def test_bad_count_goes_ahead_of_too_many(self):
        for letters in BREADTHS:
            guise = mixed(letters, 60, 3)
            self.assertRaises(TooMany, times, guise, 64)
            self.assertRaises(TooMany, times, guise, -64)
            for many in (-65, 65, FAR, -FAR):
                self.assertRaises(BadCount, times, guise, many)

    def test_too_many_on_the_way(self):
        for letters in BREADTHS:
            guise = changing(letters, ring(letters, 7), ring(letters, 9))
            self.assertEqual(times(guise, 1), guise)
            self.assertEqual(times(guise, -1), back(guise))
            # Four times it is still, and five times itself, but two times it has more than 60 rows.
            for many in (2, 3, 4, 5, 8, 64):
                self.assertRaises(TooMany, times, guise, many)
                self.assertRaises(TooMany, times, guise, -many)

    def test_sixty_rows_on_the_way_and_one_more(self):
        for letters in BREADTHS:
            # The still guise is a row of its own where there are letters besides those swapped.
            ahead = 3 if letters == 2 else 2
            guise = changing(letters, tailed_ring(letters, ahead, 7), ring(letters, 8))
            self.assertEqual(len(times(guise, 2)), 60)
            self.assertEqual(len(times(guise, -2)), 60)
            self.assertEqual(times(guise, 4), still(letters))
            self.assertEqual(times(guise, -5), back(guise))
            guise = changing(letters, tailed_ring(letters, ahead + 1, 7), ring(letters, 8))
            for many in (2, 4, 5):
                self.assertRaises(TooMany, times, guise, many)
                self.assertRaises(TooMany, times, guise, -many)

    def test_the_arguments_are_called_guise_and_many(self):
        self.assertEqual(times(many=2, guise=counter(2)), joined(counter(2), counter(2)))


class HandedIn(unittest.TestCase):
    def test_nothing_is_changed_and_all_is_told_again_alike(self):
        for letters in BREADTHS:
            one, other = counter(letters), mixed(letters, 5, 2)
            guises = [one] * (letters - 1) + [other]
            held = deepcopy((one, other, guises))

            def ask():
                return (
                    joined(one, other), back(other), behind(other, (1, 0)), branched(swap(letters), guises),
                    times(one, 5), times(one, -5),
                )

            told = ask()
            self.assertRaises(BadWord, behind, one, (letters,))
            self.assertRaises(BadCount, times, one, 65)
            self.assertRaises(TooMany, times, mixed(letters, 60, 3), 2)
            self.assertEqual(ask(), told)
            self.assertEqual((one, other, guises), held)
