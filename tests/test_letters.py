import unittest

from guisery.letters import same_letters, turned, undone

from helper import BREADTHS, rearrangings


class SameLetters(unittest.TestCase):
    def test_each_breadth(self):
        self.assertEqual(same_letters(2), (0, 1))
        self.assertEqual(same_letters(3), (0, 1, 2))
        self.assertEqual(same_letters(4), (0, 1, 2, 3))
        self.assertEqual(same_letters(5), (0, 1, 2, 3, 4))

    def test_a_breadth_somewhat_beyond_is_not_refused(self):
        self.assertEqual(same_letters(1), (0,))
        self.assertEqual(same_letters(6), (0, 1, 2, 3, 4, 5))

    def test_it_is_a_tuple_and_its_argument_is_called_letters(self):
        self.assertIs(type(same_letters(letters=3)), tuple)


class Turned(unittest.TestCase):
    def test_the_one_goes_ahead_of_the_other(self):
        self.assertEqual(turned((1, 2, 0), (0, 2, 1)), (2, 1, 0))
        self.assertEqual(turned((0, 2, 1), (1, 2, 0)), (1, 0, 2))
        self.assertEqual(turned((1, 0), (1, 0)), (0, 1))
        self.assertEqual(turned((1, 2, 3, 0), (1, 0, 2, 3)), (0, 2, 3, 1))
        self.assertEqual(turned((4, 3, 2, 1, 0), (1, 2, 3, 4, 0)), (0, 4, 3, 2, 1))

    def test_letter_by_letter(self):
        for letters in BREADTHS:
            for one in rearrangings(letters):
                for other in rearrangings(letters):
                    told = turned(one, other)
                    self.assertEqual(len(told), letters)
                    for letter in range(letters):
                        self.assertEqual(told[letter], other[one[letter]])

    def test_leaving_all_letters_adds_nothing(self):
        for letters in BREADTHS:
            for one in rearrangings(letters):
                self.assertEqual(turned(one, same_letters(letters)), one)
                self.assertEqual(turned(same_letters(letters), one), one)

    def test_it_is_a_tuple_and_its_arguments_are_called_one_and_other(self):
        self.assertIs(type(turned(one=(1, 0), other=(0, 1))), tuple)
        self.assertEqual(turned(other=(0, 2, 1), one=(1, 2, 0)), (2, 1, 0))


class Undone(unittest.TestCase):
    def test_ordinary_ones(self):
        self.assertEqual(undone((1, 0)), (1, 0))
        self.assertEqual(undone((1, 2, 0)), (2, 0, 1))
        self.assertEqual(undone((3, 0, 1, 2)), (1, 2, 3, 0))
        self.assertEqual(undone((2, 0, 4, 1, 3)), (1, 3, 0, 4, 2))

    def test_each_letter_comes_back(self):
        for letters in BREADTHS:
            for one in rearrangings(letters):
                told = undone(one)
                self.assertEqual(len(told), letters)
                for letter in range(letters):
                    self.assertEqual(told[one[letter]], letter)
                    self.assertEqual(one[told[letter]], letter)

    def test_joined_with_its_way_back_either_way_about_leaves_each_letter(self):
        for letters in BREADTHS:
            for one in rearrangings(letters):
                self.assertEqual(turned(one, undone(one)), same_letters(letters))
                self.assertEqual(turned(undone(one), one), same_letters(letters))

    def test_it_is_a_tuple_and_its_argument_is_called_one(self):
        self.assertIs(type(undone(one=(1, 0))), tuple)
