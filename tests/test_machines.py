import unittest
from copy import deepcopy
from itertools import permutations, product

from guisery.errors import BadMachine, TooMany
from guisery.machines import breadth, form, still

from helper import (
    BREADTHS, chain_machine, is_tuples_all_through, mixed_machine, read, rearrangings, ring_machine, slow_form, swap,
    words,
)

LEAVE = (0, 1)
SWAP = (1, 0)
COUNTER = [(SWAP, (1, 0)), (LEAVE, (1, 1))]
MANY_WAYS = [
    ((1, 2, 0), (3, 0, 2)),
    ((0, 1, 2), (1, 1, 1)),
    ((0, 2, 1), (0, 3, 1)),
    ((2, 1, 0), (2, 2, 0)),
]


def moved(rows, places):
    """The machine with row k at places[k]."""
    laid = [None] * len(rows)
    for at, (rearranging, goings) in enumerate(rows):
        laid[places[at]] = (rearranging, tuple(places[going] for going in goings))
    return laid


def doubled(rows):
    """The machine with each row twice, the goings to either of the two."""
    many = len(rows)
    twice = []
    for half in (0, 1):
        for at, (rearranging, goings) in enumerate(rows):
            ways = tuple(going + many * ((at + letter + half) & 1) for letter, going in enumerate(goings))
            twice.append((rearranging, ways))
    return twice


def behaviour(rows, letters, many):
    return tuple(read(rows, 0, word) for word in words(letters, many))


class Forms(unittest.TestCase):
    def test_ordinary_machines(self):
        self.assertEqual(form(2, COUNTER), ((SWAP, (1, 0)), (LEAVE, (1, 1))))
        self.assertEqual(form(2, [(SWAP, (0, 0))]), ((SWAP, (0, 0)),))
        self.assertEqual(form(2, [(LEAVE, (0, 1)), (SWAP, (0, 1))]), ((LEAVE, (0, 1)), (SWAP, (0, 1))))
        self.assertEqual(
            form(3, MANY_WAYS),
            (
                ((1, 2, 0), (1, 0, 2)),
                ((2, 1, 0), (2, 2, 0)),
                ((0, 2, 1), (0, 1, 3)),
                ((0, 1, 2), (3, 3, 3)),
            ),
        )

    def test_rows_are_numbered_as_they_are_first_come_to(self):
        cycled = (1, 2, 0)
        rows = [
            ((0, 1, 2), (5, 3, 5)),
            ((0, 2, 1), (1, 1, 1)),
            ((2, 1, 0), (2, 2, 2)),
            ((1, 0, 2), (4, 2, 0)),
            ((2, 0, 1), (4, 4, 4)),
            (cycled, (0, 1, 3)),
        ]
        self.assertEqual(
            form(3, rows),
            (
                ((0, 1, 2), (1, 2, 1)),
                (cycled, (0, 3, 2)),
                ((1, 0, 2), (4, 5, 0)),
                ((0, 2, 1), (3, 3, 3)),
                ((2, 0, 1), (4, 4, 4)),
                ((2, 1, 0), (5, 5, 5)),
            ),
        )

    def test_rows_that_are_alike_are_one(self):
        self.assertEqual(form(2, [(SWAP, (1, 1)), (SWAP, (0, 1))]), ((SWAP, (0, 0)),))
        self.assertEqual(form(2, [(SWAP, (1, 2)), (LEAVE, (3, 1)), (SWAP, (3, 0)), (LEAVE, (1, 1))]), form(2, COUNTER))
        for letters in BREADTHS:
            for seed in range(10):
                rows = mixed_machine(letters, 6, seed)
                self.assertEqual(form(letters, doubled(rows)), form(letters, rows))
                self.assertEqual(form(letters, doubled(doubled(rows))), form(letters, rows))

    def test_rows_that_part_late_are_not_one(self):
        rows = [(LEAVE, (1, 3)), (LEAVE, (2, 2)), (SWAP, (2, 2)), (LEAVE, (4, 4)), (LEAVE, (2, 2))]
        self.assertEqual(form(2, rows), ((LEAVE, (1, 2)), (LEAVE, (3, 3)), (LEAVE, (1, 1)), (SWAP, (3, 3))))

    def test_rows_never_come_to_do_nothing(self):
        for letters in BREADTHS:
            for seed in range(10):
                rows = mixed_machine(letters, 5, seed)
                more = mixed_machine(letters, 11, seed + 50)
                self.assertEqual(form(letters, rows + more[5:]), form(letters, rows))

    def test_the_order_of_the_other_rows_does_nothing(self):
        for places in permutations((1, 2, 3)):
            self.assertEqual(form(3, moved(MANY_WAYS, (0,) + places)), form(3, MANY_WAYS))
        for letters in BREADTHS:
            rows = mixed_machine(letters, 5, 3)
            for places in permutations((1, 2, 3, 4)):
                self.assertEqual(form(letters, moved(rows, (0,) + places)), form(letters, rows))

    def test_a_machine_begins_at_row_nought(self):
        self.assertEqual(form(2, [(LEAVE, (0, 1)), (SWAP, (1, 1))]), ((LEAVE, (0, 1)), (SWAP, (1, 1))))
        self.assertEqual(form(2, [(SWAP, (0, 0)), (LEAVE, (0, 1))]), ((SWAP, (0, 0)),))
        self.assertEqual(form(2, moved(COUNTER, (1, 0))), still(2))

    def test_machines_do_the_same_just_where_their_forms_are_the_same(self):
        forms = {}
        behaviours = {}
        for many in (1, 2, 3):
            choice = list(product((LEAVE, SWAP), product(range(many), repeat=2)))
            for rows in product(choice, repeat=many):
                told = form(2, list(rows))
                # Two machines of three rows part within five letters, or nowhere.
                does = behaviour(rows, 2, 5)
                self.assertEqual(forms.setdefault(does, told), told)
                self.assertEqual(behaviours.setdefault(told, does), does)

    def test_a_form_does_what_its_machine_does(self):
        for letters in BREADTHS:
            for seed in range(10):
                rows = mixed_machine(letters, 7, seed)
                told = form(letters, rows)
                self.assertEqual(behaviour(told, letters, 4), behaviour(rows, letters, 4))

    def test_forms_reckoned_another_way(self):
        for letters in BREADTHS:
            for many in (1, 2, 3, 5, 8, 13, 21):
                for seed in range(12):
                    rows = mixed_machine(letters, many, seed, swaps=1 + seed % 3)
                    self.assertEqual(form(letters, rows), slow_form(rows))
            for many in (1, 2, 9, 24):
                self.assertEqual(form(letters, chain_machine(letters, many)), slow_form(chain_machine(letters, many)))
                rows = ring_machine(letters, many, (0, many // 2))
                self.assertEqual(form(letters, rows), slow_form(rows))

    def test_the_form_of_a_forms_own_rows_is_that_form(self):
        for letters in BREADTHS:
            for seed in range(20):
                told = form(letters, mixed_machine(letters, 9, seed, swaps=2))
                self.assertEqual(form(letters, list(told)), told)

    def test_forms_are_tuples_all_through(self):
        for letters in BREADTHS:
            self.assertTrue(is_tuples_all_through(form(letters, mixed_machine(letters, 9, 1))))
            self.assertTrue(is_tuples_all_through(form(letters, [(swap(letters), (0,) * letters)])))

    def test_the_arguments_are_called_letters_and_rows(self):
        self.assertEqual(form(rows=COUNTER, letters=2), form(2, COUNTER))

    def test_a_breadth_somewhat_beyond_is_not_refused(self):
        self.assertEqual(form(1, [((0,), (1,)), ((0,), (0,))]), (((0,), (0,)),))
        self.assertEqual(form(6, ring_machine(6, 2)), tuple(ring_machine(6, 2)))


class Sizes(unittest.TestCase):
    def test_one_row(self):
        for letters in BREADTHS:
            for one in rearrangings(letters):
                self.assertEqual(form(letters, [(one, (0,) * letters)]), ((one, (0,) * letters),))

    def test_a_form_of_just_sixty_rows_is_told(self):
        for letters in BREADTHS:
            self.assertEqual(form(letters, ring_machine(letters, 60)), tuple(ring_machine(letters, 60)))
            self.assertEqual(form(letters, chain_machine(letters, 60)), tuple(chain_machine(letters, 60)))

    def test_a_form_of_sixty_one_rows_is_refused(self):
        for letters in BREADTHS:
            for rows in (ring_machine(letters, 61), chain_machine(letters, 61)):
                self.assertRaises(TooMany, form, letters, rows)

    def test_many_rows_with_a_form_of_sixty_or_sixty_one(self):
        for letters in BREADTHS:
            sixty = ring_machine(letters, 360, range(0, 360, 60))
            self.assertEqual(form(letters, sixty), tuple(ring_machine(letters, 60)))
            sixty_one = ring_machine(letters, 366, range(0, 366, 61))
            self.assertRaises(TooMany, form, letters, sixty_one)

    def test_four_hundred_rows_that_do_what_a_few_do(self):
        for letters in BREADTHS:
            few = ring_machine(letters, 400, range(0, 400, 4))
            self.assertEqual(form(letters, few), tuple(ring_machine(letters, 4)))
            self.assertEqual(form(letters, ring_machine(letters, 400, range(400))), ((swap(letters), (0,) * letters),))
            self.assertEqual(form(letters, ring_machine(letters, 400, ())), still(letters))
            mixed = mixed_machine(letters, 400, 5, swaps=1)
            self.assertEqual(form(letters, mixed), still(letters))

    def test_four_hundred_rows_of_which_a_few_are_come_to(self):
        for letters in BREADTHS:
            rows = mixed_machine(letters, 400, 11)
            rows[:2] = [(swap(letters), (1,) + (0,) * (letters - 1)), (tuple(range(letters)), (1,) * letters)]
            self.assertEqual(form(letters, rows), tuple(rows[:2]))

    def test_four_hundred_unlike_rows_are_refused(self):
        for letters in BREADTHS:
            for rows in (ring_machine(letters, 400), chain_machine(letters, 400), mixed_machine(letters, 400, 11)):
                self.assertRaises(TooMany, form, letters, rows)


class WrongMachines(unittest.TestCase):
    def refused(self, letters, rows):
        held = deepcopy(rows)
        self.assertRaises(BadMachine, form, letters, rows)
        self.assertEqual(rows, held)

    def refused_everywhere(self, letters, bad_row):
        """With the bad row put at the first, a middle and the last row, come to or not."""
        leave = tuple(range(letters))
        for many in (1, 5, 400):
            for at in (0, many // 2, many - 1):
                never = [(leave, (0,) * letters)] * many
                for rows in (ring_machine(letters, many), never):
                    rows = list(rows)
                    rows[at] = bad_row(rows[at], many)
                    self.refused(letters, rows)

    def test_counts_of_rows(self):
        for letters in BREADTHS:
            self.refused(letters, [])
            row = (tuple(range(letters)), (0,) * letters)
            self.assertEqual(form(letters, [row] * 400), still(letters))
            self.refused(letters, [row] * 401)
            self.refused(letters, [row] * 1000)

    def test_rearrangings(self):
        for letters in BREADTHS:
            leave = tuple(range(letters))
            wrong = [
                (0,) * letters, leave[:-1] + (0,), (letters - 1,) + leave[1:],
                leave + (0,), leave + (letters,), leave[:-1], leave[1:], (),
                leave[:-1] + (letters,), leave[:-1] + (-1,), (-letters,) + leave[1:],
                leave[:-1] + (10 ** 30,), tuple(letter + 1 for letter in leave), tuple(-letter for letter in leave),
            ]
            for other in BREADTHS:
                if other != letters:
                    wrong.append(tuple(range(other)))
            for rearranging in wrong:
                self.refused_everywhere(letters, lambda row, many: (rearranging, row[1]))

    def test_counts_of_goings(self):
        for letters in BREADTHS:
            self.refused_everywhere(letters, lambda row, many: (row[0], row[1] + (0,)))
            self.refused_everywhere(letters, lambda row, many: (row[0], row[1][:-1]))
            self.refused_everywhere(letters, lambda row, many: (row[0], row[1] * 2))
            self.refused_everywhere(letters, lambda row, many: (row[0], ()))

    def test_goings_that_are_no_row(self):
        for letters in BREADTHS:
            for place in range(letters):
                def with_going(row, going):
                    return (row[0], row[1][:place] + (going,) + row[1][place + 1:])
                self.refused_everywhere(letters, lambda row, many: with_going(row, -1))
                self.refused_everywhere(letters, lambda row, many: with_going(row, -many))
                self.refused_everywhere(letters, lambda row, many: with_going(row, many))
                self.refused_everywhere(letters, lambda row, many: with_going(row, 10 ** 30))

    def test_the_last_row_is_a_row(self):
        for letters in BREADTHS:
            for many in (1, 2, 400):
                leave = tuple(range(letters))
                rows = [(leave, (many - 1,) * letters)] * (many - 1) + [(swap(letters), (many - 1,) * letters)]
                self.assertEqual(form(letters, rows)[-1][0], swap(letters))

    def test_a_whole_machine_of_another_breadth(self):
        for letters in BREADTHS:
            for other in BREADTHS:
                if other != letters:
                    self.refused(letters, ring_machine(other, 3))

    def test_bad_machine_goes_ahead_of_too_many(self):
        for letters in BREADTHS:
            self.refused(letters, ring_machine(letters, 401))
            rows = ring_machine(letters, 61)
            self.refused(letters, rows + [((0,) * letters, (0,) * letters)])
            self.refused(letters, rows + [(tuple(range(letters)), (0,) * (letters + 1))])
            self.refused(letters, rows + [(tuple(range(letters)), (62,) * letters)])
            self.refused(letters, rows[:-1] + [(tuple(range(letters)), (0,) * (letters - 1) + (61,))])


class StillGuises(unittest.TestCase):
    def test_one_row_for_each_breadth(self):
        self.assertEqual(still(2), (((0, 1), (0, 0)),))
        self.assertEqual(still(3), (((0, 1, 2), (0, 0, 0)),))
        self.assertEqual(still(4), (((0, 1, 2, 3), (0, 0, 0, 0)),))
        self.assertEqual(still(5), (((0, 1, 2, 3, 4), (0, 0, 0, 0, 0)),))

    def test_it_is_a_form(self):
        for letters in BREADTHS:
            self.assertTrue(is_tuples_all_through(still(letters=letters)))
            self.assertEqual(form(letters, list(still(letters))), still(letters))

    def test_machines_that_leave_the_letters_whatever_their_goings(self):
        for goings in product(product(range(3), repeat=2), repeat=3):
            self.assertEqual(form(2, [(LEAVE, ways) for ways in goings]), still(2))
        for letters in BREADTHS:
            for many in (1, 2, 60, 61, 400):
                self.assertEqual(form(letters, mixed_machine(letters, many, many, swaps=1)), still(letters))


class Breadths(unittest.TestCase):
    def test_forms_of_every_breadth(self):
        for letters in BREADTHS:
            self.assertEqual(breadth(still(letters)), letters)
            self.assertEqual(breadth(guise=form(letters, ring_machine(letters, 7))), letters)
            self.assertEqual(breadth(form(letters, ring_machine(letters, 60))), letters)


class HandedIn(unittest.TestCase):
    def test_nothing_is_changed_and_all_is_told_again_alike(self):
        for letters in BREADTHS:
            for rows in (
                ring_machine(letters, 8), chain_machine(letters, 8),
                mixed_machine(letters, 30, 2), doubled(mixed_machine(letters, 20, 4)),
            ):
                held = deepcopy(rows)
                told = form(letters, rows)
                kept = deepcopy(told)
                self.assertEqual(rows, held)
                self.assertEqual(form(letters, rows), kept)
                rows.reverse()
                rows.clear()
                self.assertEqual(told, kept)
                self.assertEqual(form(letters, held), kept)

    def test_a_refused_machine_is_not_changed(self):
        for letters in BREADTHS:
            rows = ring_machine(letters, 61)
            held = deepcopy(rows)
            self.assertRaises(TooMany, form, letters, rows)
            self.assertEqual(rows, held)
            self.assertRaises(TooMany, form, letters, rows)
            rows.append(((0,) * letters, (0,) * letters))
            held = deepcopy(rows)
            self.assertRaises(BadMachine, form, letters, rows)
            self.assertEqual(rows, held)

    def test_a_form_is_not_changed_by_what_is_asked_of_it(self):
        told = form(2, COUNTER)
        kept = deepcopy(told)
        breadth(told)
        form(2, list(told))
        self.assertEqual(told, kept)
