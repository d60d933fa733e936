import unittest
from copy import deepcopy

from guisery.machines import form, still
from guisery.parting import parted, same

from helper import (
    BREADTHS, chain_machine, counter_machine, late_letters, mixed_machine, read, rearrangings, ring_machine,
    short_words, slow_parted, stairs_machine, swap,
)


def parted_by_hand(one, other, letters, most):
    for word in short_words(letters, most):
        if read(one, 0, word) != read(other, 0, word):
            return word
    return None


def tree(letters, swapped):
    """A form that swaps two letters just behind the words told, and leaves all other letters."""
    def row(word):
        if not any(longer[:len(word)] == word for longer in swapped):
            return -1
        at = len(rows)
        rows.append(None)
        goings = tuple(row(word + (letter,)) for letter in range(letters))
        rows[at] = (swap(letters) if word in swapped else tuple(range(letters)), goings)
        return at

    rows = []
    row(())
    end = len(rows)
    rows.append((tuple(range(letters)), (-1,) * letters))
    return form(letters, [(one, tuple(end if going < 0 else going for going in goings)) for one, goings in rows])


def late_rings(letters, one, other):
    """Two guises of so many rows that part as late as such rings can, at word's letter one + other - 2."""
    late = late_letters(one, other)
    return [
        form(letters, ring_machine(letters, many, [place for place in range(many) if late[place]]))
        for many in (one, other)
    ]


class Checked(unittest.TestCase):
    def parts_at(self, one, other, word):
        self.assertEqual(parted(one, other), word)
        self.assertEqual(parted(other, one), word)
        self.assertIs(type(parted(one, other)), tuple)
        self.assertIs(same(one, other), False)
        self.assertIs(same(other, one), False)
        made, beside = read(one, 0, word), read(other, 0, word)
        self.assertEqual(made[:-1], beside[:-1])
        self.assertNotEqual(made[-1], beside[-1])

    def are_the_same(self, one, other):
        self.assertIsNone(parted(one, other))
        self.assertIsNone(parted(other, one))
        self.assertIs(same(one, other), True)
        self.assertIs(same(other, one), True)


class TheSame(Checked):
    def test_a_guise_and_itself(self):
        for letters in BREADTHS:
            self.are_the_same(still(letters), still(letters))
            for rows in (counter_machine(letters), ring_machine(letters, 60), chain_machine(letters, 60)):
                self.are_the_same(form(letters, rows), form(letters, rows))
            for seed in range(8):
                guise = form(letters, mixed_machine(letters, 12, seed))
                self.are_the_same(guise, deepcopy(guise))

    def test_machines_that_do_the_same(self):
        for letters in BREADTHS:
            self.are_the_same(form(letters, mixed_machine(letters, 9, 4, swaps=1)), still(letters))
            self.are_the_same(form(letters, ring_machine(letters, 120, (0, 60))), form(letters, ring_machine(letters, 60)))


class Parted(Checked):
    def test_at_the_first_letter(self):
        for letters in BREADTHS:
            for one in rearrangings(letters):
                for other in rearrangings(letters)[:24]:
                    if one != other:
                        letter = [here == there for here, there in zip(one, other)].index(False)
                        self.parts_at(((one, (0,) * letters),), ((other, (0,) * letters),), (letter,))

    def test_at_the_first_letter_that_is_not_the_least(self):
        for letters in (3, 4, 5):
            last_two = tuple(range(letters - 2)) + (letters - 1, letters - 2)
            self.parts_at(still(letters), ((last_two, (0,) * letters),), (letters - 2,))

    def test_at_a_later_letter(self):
        for letters in BREADTHS:
            for many in (1, 2, 3, 10, 59, 60):
                guise = form(letters, chain_machine(letters, many))
                self.parts_at(guise, still(letters), (0,) * many)
                for other in (1, 2, 9, 58, 60):
                    if other != many:
                        beside = form(letters, chain_machine(letters, other))
                        self.parts_at(guise, beside, (0,) * min(many, other))

    def test_of_several_words_of_one_length_the_least(self):
        for letters in BREADTHS:
            last = letters - 1
            for behind_these, word in (
                ([(last,), (0,)], (0, 0)),
                ([(last, 0), (last, 1)], (last, 0, 0)),
                ([(1, 1), (0, 1)], (0, 1, 0)),
                ([(last, 0, 0), (1, 0, 1), (0, last, last), (0, last, 0)], (0, last, 0, 0)),
                ([(1, last), (1, 0), (last, last)], (1, 0, 0)),
            ):
                self.parts_at(tree(letters, behind_these), still(letters), word)

    def test_of_words_of_several_lengths_the_shortest(self):
        for letters in BREADTHS:
            last = letters - 1
            for behind_these, word in (
                ([(0, 0), (last,)], (last, 0)),
                ([(0, 0, 0), (1, last)], (1, last, 0)),
                ([(0, 1, 0, 1), (last, last, last), (1, 0, 0, 0)], (last, last, last, 0)),
                ([(0,), ()], (0,)),
            ):
                self.parts_at(tree(letters, behind_these), still(letters), word)

    def test_words_behind_which_both_do_the_same_are_passed_by(self):
        for letters in BREADTHS:
            last = letters - 1
            one = tree(letters, [(0, 0), (1,), (last, last)])
            other = tree(letters, [(0, 0), (1,), (last, last), (last, 1, 0)])
            self.parts_at(one, other, (last, 1, 0, 0))

    def test_a_search_over_all_short_words(self):
        # Guises of so many rows, both together, part within one letter less, or nowhere.
        for letters, seeds in ((2, 24), (3, 16), (4, 10), (5, 8)):
            guises = [form(letters, mixed_machine(letters, 1 + seed % 3, seed, swaps=2)) for seed in range(seeds)]
            for one in guises:
                for other in guises:
                    word = parted_by_hand(one, other, letters, len(one) + len(other) - 1)
                    if word is None:
                        self.are_the_same(one, other)
                    else:
                        self.parts_at(one, other, word)

    def test_against_lengths_found_backwards(self):
        for letters in BREADTHS:
            guises = [form(letters, mixed_machine(letters, 20, seed, swaps=2)) for seed in range(6)]
            guises += [form(letters, rows(letters, 20)) for rows in (ring_machine, chain_machine, stairs_machine)]
            for one in guises:
                for other in guises:
                    self.assertEqual(parted(one, other), slow_parted(one, other))
                    self.assertEqual(same(one, other), slow_parted(one, other) is None)

    def test_one_row_changed(self):
        for letters in BREADTHS:
            rows = mixed_machine(letters, 30, 5)
            for at in range(0, 30, 4):
                changed = list(rows)
                changed[at] = (rows[at][0][1:] + rows[at][0][:1], rows[at][1])
                one, other = form(letters, rows), form(letters, changed)
                self.assertEqual(parted(one, other), slow_parted(one, other))


class PartedLate(Checked):
    def test_at_the_hundred_and_eighteenth_letter(self):
        for letters in BREADTHS:
            one, other = late_rings(letters, 59, 60)
            self.assertEqual((len(one), len(other)), (59, 60))
            self.parts_at(one, other, (0,) * 118)
            self.parts_at(*late_rings(letters, 60, 53), (0,) * 112)

    def test_up_the_stairs(self):
        for letters in BREADTHS:
            guise = form(letters, stairs_machine(letters, 60))
            self.assertEqual(len(guise), 60)
            self.parts_at(guise, still(letters), (letters - 1,) * 59 + (0,))
            self.parts_at(guise, form(letters, stairs_machine(letters, 41)), (letters - 1,) * 40 + (0,))
            beside = form(letters, stairs_machine(letters, 59))
            self.parts_at(beside, guise, (letters - 1,) * 58 + (0,))

    def test_the_stairs_and_a_ring(self):
        for letters in BREADTHS:
            one = form(letters, stairs_machine(letters, 60))
            other = form(letters, ring_machine(letters, 60, (59,)))
            self.assertEqual(parted(one, other), slow_parted(one, other))
            self.parts_at(one, other, (0,) * 60)


class HandedIn(unittest.TestCase):
    def test_the_arguments_are_called_one_and_other(self):
        one, other = form(2, counter_machine(2)), still(2)
        self.assertEqual(parted(one=one, other=other), (0,))
        self.assertIs(same(one=one, other=other), False)

    def test_nothing_is_changed_and_all_is_told_again_alike(self):
        for letters in BREADTHS:
            one, other = late_rings(letters, 13, 14)
            held = deepcopy((one, other))
            told = parted(one, other)
            parted(one, still(letters))
            same(other, one)
            self.assertEqual(parted(one, other), told)
            self.assertEqual((one, other), held)


