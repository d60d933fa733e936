import unittest
from copy import deepcopy

from guisery.crews import crew, depth, lasting, order, sections
from guisery.errors import BadCount, TooMany
from guisery.joining import back, behind, branched, joined, times
from guisery.machines import form, still

from helper import (
    BREADTHS, FAR, chain, changing, counter, is_tuples_all_through, mixed, pair_machine, rearrangings, ring,
    short_words, slow_form, some_guises, stairs, swap, tailed_ring, words,
)


def moved_ahead(guise, row):
    """The machine of a guise begun at another row."""
    moved = [(one, tuple(going + 1 for going in goings)) for one, goings in guise]
    return [moved[row]] + moved


def slow_sections(guise):
    return [slow_form(moved_ahead(guise, row)) for row in range(len(guise))]


def rows_again(guise):
    """The rows that are come to from themselves, by all steps of one letter made ways of any many."""
    many = range(len(guise))
    ways = [[going in guise[row][1] for going in many] for row in many]
    for through in many:
        for row in many:
            if ways[row][through]:
                ways[row] = [here or there for here, there in zip(ways[row], ways[through])]
    return [row for row in many if ways[row][row]]


def slow_depth(guise, letters, most):
    for many in range(most + 1):
        if all(behind(guise, word) == still(letters) for word in words(letters, many)):
            return many
    return None


def slow_order(guise, most):
    one = told = guise
    for many in range(1, most + 1):
        if told == still(len(guise[0][0])):
            return many
        told = slow_form(pair_machine(told, one))
    return None


def counting(letters, base, many):
    """A guise of order base ** many: it counts by the first letters, the lightest first, and is still behind so many."""
    told = still(letters)
    turning = tuple(range(1, base)) + (0,) + tuple(range(base, letters))
    for count in range(many):
        branches = [still(letters)] * letters
        branches[base - 1] = told
        told = branched(turning, branches)
    return told


def falling(letters, many):
    """A guise of so many rows: each swaps two letters and goes on at the next one, and the last one is still."""
    leave = tuple(range(letters))
    rows = [(swap(letters), (row + 1,) * letters) for row in range(many - 1)]
    return form(letters, rows + [(leave, (many - 1,) * letters)])


def beside(letters, one, other):
    """The one guise behind the letter 0, the other behind 1, and all still else."""
    return branched(tuple(range(letters)), [one, other] + [still(letters)] * (letters - 2))


class Sections(unittest.TestCase):
    def test_ordinary_ones(self):
        self.assertEqual(sections(counter(2)), [counter(2), still(2)])
        self.assertEqual(sections(ring(2, 3)), [ring(2, 3), ring(2, 3, (2,)), ring(2, 3, (1,))])
        guise = (((1, 2, 0), (1, 2, 0)), ((0, 1, 2), (1, 1, 1)), ((0, 2, 1), (2, 2, 2)))
        self.assertEqual(sections(guise), [guise, still(3), (((0, 2, 1), (0, 0, 0)),)])

    def test_forms_begun_at_each_row(self):
        for letters in BREADTHS:
            guises = [mixed(letters, 1 + seed, seed, swaps=2 + seed % 3) for seed in range(10)]
            for guise in guises + some_guises(letters)[:6]:
                told = sections(guise)
                self.assertIs(type(told), list)
                self.assertEqual(told, slow_sections(guise))
                self.assertTrue(all(is_tuples_all_through(section) for section in told))
                self.assertTrue(all(form(letters, list(section)) == section for section in told))

    def test_the_guises_behind_all_words_each_once(self):
        for letters in BREADTHS:
            for guise in (counter(letters), mixed(letters, 4, 1), chain(letters, 3), stairs(letters, 4), ring(letters, 4)):
                seen = []
                for word in short_words(letters, 4):
                    if behind(guise, word) not in seen:
                        seen.append(behind(guise, word))
                self.assertEqual(sections(guise), seen)

    def test_the_still_guise(self):
        for letters in BREADTHS:
            self.assertEqual(sections(still(letters)), [still(letters)])

    def test_up_to_sixty_rows(self):
        for letters in BREADTHS:
            self.assertEqual(sections(chain(letters, 60)), [chain(letters, many) for many in range(60, 0, -1)])
            for guise in some_guises(letters):
                told = sections(guise)
                self.assertEqual(len(told), len(guise))
                self.assertEqual(len(set(told)), len(guise))
                self.assertEqual(told[0], guise)

    def test_a_told_list_that_is_changed(self):
        for letters in BREADTHS:
            guise = mixed(letters, 5, 1)
            told = sections(guise)
            kept = list(told)
            told.reverse()
            told.pop()
            self.assertEqual(sections(guise), kept)

    def test_its_argument_is_called_guise(self):
        self.assertEqual(sections(guise=still(2)), [still(2)])


class Lasting(unittest.TestCase):
    def test_ordinary_ones(self):
        for letters in BREADTHS:
            self.assertEqual(lasting(still(letters)), [still(letters)])
            self.assertEqual(lasting(counter(letters)), [counter(letters), still(letters)])
            self.assertEqual(lasting(chain(letters, 5)), [chain(letters, 1)])
            self.assertEqual(lasting(falling(letters, 5)), [still(letters)])
            self.assertEqual(lasting(ring(letters, 5)), sections(ring(letters, 5)))
            self.assertEqual(lasting(tailed_ring(letters, 3, 4)), sections(tailed_ring(letters, 3, 4))[3:])

    def test_those_that_come_to_themselves(self):
        for letters in BREADTHS:
            guises = [mixed(letters, 1 + seed, seed) for seed in range(12)] + some_guises(letters)
            guises += [beside(letters, ring(letters, 3), chain(letters, 4)), tailed_ring(letters, 20, 40)]
            for guise in guises:
                told = lasting(guise)
                self.assertIs(type(told), list)
                every = sections(guise)
                self.assertEqual(told, [every[row] for row in rows_again(guise)])

    def test_by_words(self):
        for letters in BREADTHS:
            for guise in (mixed(letters, 3, 2), mixed(letters, 3, 5), chain(letters, 3), falling(letters, 3)):
                every = [word for word in short_words(letters, 3) if word]
                again = [one for one in sections(guise) if any(behind(one, word) == one for word in every)]
                self.assertEqual(lasting(guise), again)

    def test_a_ring_of_sixty_rows_comes_again_behind_sixty_letters(self):
        for letters in BREADTHS:
            self.assertEqual(len(lasting(ring(letters, 60))), 60)
            self.assertEqual(lasting(chain(letters, 60)), [chain(letters, 1)])

    def test_a_told_list_that_is_changed(self):
        for letters in BREADTHS:
            guise = ring(letters, 4)
            told = lasting(guise)
            kept = list(told)
            told.clear()
            self.assertEqual(lasting(guise), kept)

    def test_its_argument_is_called_guise(self):
        self.assertEqual(lasting(guise=still(2)), [still(2)])


class Crews(unittest.TestCase):
    def by_hand(self, guises):
        every = {section for guise in guises for section in sections(guise)}
        return sorted(sorted(every), key=len)

    def test_of_none_and_of_one(self):
        for letters in BREADTHS:
            self.assertEqual(crew([]), [])
            self.assertEqual(crew([still(letters)]), [still(letters)])
            self.assertEqual(crew([counter(letters)]), [still(letters), counter(letters)])
            for guise in some_guises(letters):
                self.assertEqual(crew([guise]), self.by_hand([guise]))

    def test_of_several(self):
        for letters in BREADTHS:
            guises = [mixed(letters, many, 3) for many in (2, 9, 4, 3)] + [counter(letters), chain(letters, 3)]
            for one in range(len(guises)):
                some = guises[one:] + guises[:one]
                told = crew(some)
                self.assertIs(type(told), list)
                self.assertEqual(told, self.by_hand(guises))
                self.assertTrue(all(is_tuples_all_through(section) for section in told))
            self.assertEqual(crew(some_guises(letters)), self.by_hand(some_guises(letters)))

    def test_of_one_guise_twice_and_of_guises_that_share_sections(self):
        for letters in BREADTHS:
            guise = mixed(letters, 6, 4)
            self.assertEqual(crew([guise, guise]), crew([guise]))
            self.assertEqual(crew([guise] + sections(guise)[::-1]), crew([guise]))
            shared = [chain(letters, 3), chain(letters, 5), still(letters), counter(letters)]
            self.assertEqual(
                crew(shared),
                sorted([chain(letters, 1), still(letters)])
                + sorted([chain(letters, 2), counter(letters)])
                + [chain(letters, many) for many in (3, 4, 5)],
            )

    def test_fewer_rows_first_and_then_the_lesser_form(self):
        for letters in BREADTHS:
            simple = [form(letters, [(one, (0,) * letters)]) for one in rearrangings(letters)]
            self.assertEqual(crew(simple[::-1]), simple)
            # By the forms alone the one of three rows would be the first.
            self.assertGreater(counter(letters), chain(letters, 3))
            told = crew([chain(letters, 3), counter(letters)])
            self.assertLess(told.index(counter(letters)), told.index(chain(letters, 3)))
            sizes = [len(section) for section in crew(some_guises(letters))]
            self.assertEqual(sizes, sorted(sizes))

    def test_the_list_handed_in_stands_as_it_did(self):
        for letters in BREADTHS:
            guises = [ring(letters, 3), counter(letters), ring(letters, 3)]
            held = deepcopy(guises)
            told = crew(guises)
            self.assertEqual(guises, held)
            kept = list(told)
            guises.clear()
            self.assertEqual(told, kept)
            told.reverse()
            told.append(None)
            self.assertEqual(crew(held), kept)

    def test_its_argument_is_called_guises(self):
        self.assertEqual(crew(guises=[]), [])


class Depths(unittest.TestCase):
    def test_the_still_guise(self):
        for letters in BREADTHS:
            self.assertEqual(depth(still(letters)), 0)
            self.assertIs(type(depth(still(letters))), int)

    def test_guises_that_only_go_down(self):
        for letters in BREADTHS:
            for many in (1, 2, 3, 30, 59, 60):
                self.assertEqual(depth(falling(letters, many)), many - 1)
            for many in (1, 2, 6):
                self.assertEqual(depth(counting(letters, letters, many)), many)
            self.assertEqual(depth(beside(letters, still(letters), falling(letters, 4))), 4)
            self.assertEqual(depth(beside(letters, falling(letters, 7), falling(letters, 4))), 7)
            self.assertEqual(depth(branched(swap(letters), [still(letters)] * letters)), 1)

    def test_rows_that_leave_all_letters_on_the_way_down(self):
        for letters in BREADTHS:
            told = branched(swap(letters), [still(letters)] * letters)
            for many in range(1, 10):
                self.assertEqual(depth(told), many)
                told = branched(tuple(range(letters)), [still(letters)] * (letters - 1) + [told])

    def test_none_where_a_row_that_is_not_still_comes_again(self):
        for letters in BREADTHS:
            for guise in (counter(letters), ring(letters, 2), ring(letters, 60), chain(letters, 1), chain(letters, 60)):
                self.assertIsNone(depth(guise))
            self.assertIsNone(depth(stairs(letters, 60)))
            self.assertIsNone(depth(tailed_ring(letters, 50, 10)))
            self.assertIsNone(depth(beside(letters, falling(letters, 9), counter(letters))))
            self.assertIsNone(depth(beside(letters, counter(letters), falling(letters, 9))))

    def test_by_words(self):
        for letters in BREADTHS:
            guises = [mixed(letters, 1 + seed % 4, seed) for seed in range(20)]
            guises += [falling(letters, 3), counting(letters, 2, 2), beside(letters, falling(letters, 2), still(letters))]
            for guise in guises:
                told = depth(guise)
                if told is None:
                    self.assertIsNone(slow_depth(guise, letters, min(len(guise), 4)))
                else:
                    self.assertEqual(told, slow_depth(guise, letters, told))

    def test_just_where_nothing_lasts_but_the_still_guise(self):
        for letters in BREADTHS:
            for guise in some_guises(letters) + [falling(letters, 60), counting(letters, 2, 5)]:
                self.assertEqual(depth(guise) is not None, lasting(guise) == [still(letters)])

    def test_its_argument_is_called_guise(self):
        self.assertEqual(depth(guise=still(2)), 0)


class Orders(unittest.TestCase):
    def test_ordinary_ones(self):
        self.assertEqual(order(form(3, [((1, 2, 0), (0, 0, 0))]), 64), 3)
        self.assertEqual(order(ring(2, 2), 64), 2)
        for letters in BREADTHS:
            self.assertEqual(order(ring(letters, 60), 2), 2)
            turning = form(letters, [(tuple(range(1, letters)) + (0,), (0,) * letters)])
            self.assertEqual(order(turning, 64), letters)
            for base in range(2, letters + 1):
                for many in (1, 2):
                    self.assertEqual(order(counting(letters, base, many), 64), base ** many)

    def test_the_still_guise(self):
        for letters in BREADTHS:
            for most in (1, 2, 24, 64):
                self.assertEqual(order(still(letters), most), 1)

    def test_up_to_the_most(self):
        for letters in BREADTHS:
            for many in (1, 4, 5, 6):
                guise = counting(letters, 2, many)
                for most in (1, 2, 15, 16, 24, 31, 32, 33, 63, 64):
                    self.assertEqual(order(guise, most), 2 ** many if 2 ** many <= most else None)
            if letters > 2:
                # The two orders have no common part.
                both = beside(letters, counting(letters, 2, 3), counting(letters, 3, 1))
                self.assertEqual([order(both, most) for most in (1, 23, 24, 25, 64)], [None, None, 24, 24, 24])

    def test_none(self):
        for letters in BREADTHS:
            for most in (1, 24, 64):
                self.assertIsNone(order(counter(letters), most))
            self.assertIsNone(order(ring(letters, 60), 1))

    def test_against_machines_of_all_pairs_of_rows(self):
        for letters in BREADTHS:
            guises = [form(letters, [(one, (0,) * letters)]) for one in rearrangings(letters)[::7]]
            guises += [ring(letters, 3), falling(letters, 3), counting(letters, 2, 2), counter(letters)]
            for guise in guises:
                told = order(guise, 6)
                self.assertEqual(told, slow_order(guise, 6))
                self.assertEqual(told is None, all(times(guise, many) != still(letters) for many in range(1, 7)))

    def test_the_way_back_has_the_same(self):
        for letters in BREADTHS:
            for guise in (counting(letters, 2, 4), ring(letters, 5), falling(letters, 9), still(letters)):
                self.assertEqual(order(back(guise), 64), order(guise, 64))

    def test_mosts_that_are_out_of_bounds(self):
        for letters in BREADTHS:
            for guise in (still(letters), counter(letters), ring(letters, 60), mixed(letters, 60, 3)):
                for most in (0, 65, -1, -64, 66, 1000, FAR, -FAR):
                    self.assertRaises(BadCount, order, guise, most)

    def test_too_many_only_where_it_comes_ahead_of_the_order(self):
        for letters in BREADTHS:
            # Two times it has more than 60 rows, four times it is still.
            guise = changing(letters, ring(letters, 7), ring(letters, 9))
            self.assertRaises(TooMany, joined, guise, guise)
            self.assertIsNone(order(guise, 1))
            for most in (2, 3, 4, 64):
                self.assertRaises(TooMany, order, guise, most)
            # Here just 60 rows, and one more.
            ahead = 3 if letters == 2 else 2
            guise = changing(letters, tailed_ring(letters, ahead, 7), ring(letters, 8))
            self.assertEqual(len(joined(guise, guise)), 60)
            self.assertEqual([order(guise, most) for most in (1, 2, 3, 4, 64)], [None, None, None, 4, 4])
            guise = changing(letters, tailed_ring(letters, ahead + 1, 7), ring(letters, 8))
            self.assertEqual(order(guise, 1), None)
            self.assertRaises(TooMany, order, guise, 4)
            # Two times still, though two of it and another one would be too many.
            self.assertEqual(order(ring(letters, 60), 64), 2)
            guise = mixed(letters, 60, 3)
            self.assertIsNone(order(guise, 1))
            self.assertRaises(TooMany, order, guise, 64)

    def test_the_arguments_are_called_guise_and_most(self):
        self.assertEqual(order(most=5, guise=still(2)), 1)


class HandedIn(unittest.TestCase):
    def test_nothing_is_changed_and_all_is_told_again_alike(self):
        def ask(letters):
            guise = mixed(letters, 6, 2)
            guises = [guise, counting(letters, 2, 3)]
            held = deepcopy(guises)
            told = (sections(guise), lasting(guise), crew(guises), depth(guises[1]), depth(guise), order(guises[1], 9))
            self.assertRaises(BadCount, order, guise, 0)
            self.assertRaises(TooMany, order, mixed(letters, 60, 3), 2)
            self.assertEqual(guises, held)
            return told

        first = [ask(letters) for letters in BREADTHS]
        for letters in BREADTHS + BREADTHS[::-1]:
            self.assertEqual(ask(letters), first[letters - 2])
