import unittest
from copy import deepcopy
from itertools import product

from guisery import errors
from guisery.crews import order
from guisery.errors import (
    BadBreadth, BadCount, BadLine, BadMachine, BadName, BadPage, BadWord, GuiseError, NoGuise, NoPeg, NothingLeft,
    NothingWorn, Taken, TooLong, TooMany,
)
from guisery.floors import floor
from guisery.house import House
from guisery.joining import back, behind, branched, joined, times
from guisery.lines import read_line
from guisery.machines import form, still
from guisery.notes import read_page
from guisery.parting import parted
from guisery.wearing import worn_endless
from guisery.words import alike_for, letter_at, plain_word

from helper import (
    BREADTHS, FAR, chain, chain_machine, changing, counter, counter_machine, is_plain, is_tuples_all_through, mixed,
    mixed_machine, mixed_numbers, mixed_word, rearrangings, ring, ring_machine, slow_form, spoilt, stairs_machine,
    stand, stands, swap, told_in_ways,
)

GOOD_NAMES = ("a", "z", "ab", "abcdefghijkl", "mnopqrstuvwx", "yz", "sew", "zzzzzzzzzzzz")
BAD_NAMES = (
    "", " ", "A", "aB", "Ab", "a1", "1", "0", "a b", " a", "a ", "a_b", "-", "a-", "/", "abcdefghijklm", "a" * 13,
    "a" * 500, "a\n", "\n", "\na", "`", "{", "a.b", "~", "!",
)


def laid_together(rows, guises):
    """The machine of the rows and, behind them, of the guises that they name."""
    machine, begun = list(rows), {}
    for name in sorted(guises):
        begun[name] = len(machine)
        machine += [(one, tuple(going + begun[name] for going in goings)) for one, goings in guises[name]]
    return [(one, tuple(begun.get(going, going) for going in goings)) for one, goings in machine]


def furnished(letters):
    """A house with guises a, b, big, more and pegs p, q, and with two deeds to do again."""
    house = House(letters)
    house.sew("a", counter_machine(letters))
    house.sew("b", ring_machine(letters, 3))
    house.sew("big", list(mixed(letters, 60, 1)))
    house.sew("more", list(changing(letters, ring(letters, 7), ring(letters, 9))))
    house.hang("p", (1, 0), (0, 1, 1))
    house.hang("q", (), (1,))
    house.wear("p", "a")
    house.wear("p", "b")
    house.hang("gone", (), (0,))
    house.join("goes", "a", "b")
    house.undo()
    house.undo()
    return house


class Refusing(unittest.TestCase):
    def refused(self, refusal, house, deed, *handed):
        """The deed is refused just so, and the house stands as it did, with the same to take back and to do again."""
        ahead = stands(house)
        with self.assertRaises(GuiseError) as caught:
            getattr(house, deed)(*handed)
        self.assertIs(type(caught.exception), refusal, (deed, handed))
        self.assertEqual(stands(house), ahead)

    def refused_in_order(self, letters, deed, refusals, choices, at_last=None):
        """Every choice of what is handed in: of the refusals that are due, the one that is named first goes."""
        house = furnished(letters)
        ahead = stands(house)
        for chosen in product(*choices):
            due = [refusal for value, refusal in chosen if refusal] or [at_last]
            expected = min(due, key=refusals.index)
            with self.assertRaises(GuiseError) as caught:
                getattr(house, deed)(*[value for value, refusal in chosen])
            self.assertIs(type(caught.exception), expected, (deed, chosen))
        self.assertEqual(stands(house), ahead)


class NewHouses(Refusing):
    def test_breadths(self):
        for letters in BREADTHS:
            self.assertEqual(House(letters).letters(), letters)
        for letters in (-1, 0, 1, 6, 7, -2, -5, 100, FAR, -FAR):
            self.assertRaises(BadBreadth, House, letters)

    def test_a_new_house_is_empty(self):
        for letters in BREADTHS:
            house = House(letters)
            self.assertEqual(stand(house), (letters, [], {}, {}))
            self.assertEqual((house.names(), house.pegs(), house.deeds()), ([], [], []))
            self.refused(NothingLeft, house, "undo")
            self.refused(NothingLeft, house, "redo")

    def test_two_houses_never_know_of_one_another(self):
        for letters in BREADTHS:
            one, other, wider = House(letters), House(letters), House(7 - letters)
            one.sew("a", counter_machine(letters))
            one.hang("p", (), (0,))
            self.assertEqual(stand(other), (letters, [], {}, {}))
            self.assertEqual(stand(wider), (7 - letters, [], {}, {}))
            other.sew("a", ring_machine(letters, 2))
            wider.sew("a", ring_machine(7 - letters, 3))
            self.refused(NoPeg, other, "wear", "p", "a")
            one.wear("p", "a")
            self.assertEqual(one.guise("a"), counter(letters))
            self.assertEqual(other.guise("a"), ring(letters, 2))
            self.assertEqual(wider.guise("a"), ring(7 - letters, 3))
            other.undo()
            self.assertEqual(one.names(), ["a"])
            self.refused(NothingLeft, other, "undo")

    def test_its_argument_is_called_letters(self):
        self.assertEqual(House(letters=3).letters(), 3)


class Names(Refusing):
    def naming(self, letters):
        """Each deed that gives a new name, as a def of the house and the name."""
        return [
            lambda house, name: house.sew(name, counter_machine(letters)),
            lambda house, name: house.join(name, "one", "other"),
            lambda house, name: house.turn(name, "one"),
            lambda house, name: house.look(name, "one", (0,)),
            lambda house, name: house.power(name, "one", 2),
            lambda house, name: house.hang(name, (), (0,)),
        ]

    def begun(self, letters):
        house = House(letters)
        house.sew("one", counter_machine(letters))
        house.sew("other", ring_machine(letters, 2))
        house.hang("peg", (), (0,))
        return house

    def test_names_of_1_to_12_small_letters(self):
        for letters in BREADTHS:
            for give in self.naming(letters):
                house = self.begun(letters)
                for name in GOOD_NAMES:
                    self.assertIsNone(give(house, name))
                    self.assertIn(name, house.names() + house.pegs())
                ahead = stands(house)
                for name in BAD_NAMES:
                    self.assertRaises(BadName, give, house, name)
                self.assertEqual(stands(house), ahead)

    def test_taken(self):
        for letters in BREADTHS:
            for give in self.naming(letters)[:-1]:
                house = self.begun(letters)
                ahead = stands(house)
                self.assertRaises(Taken, give, house, "one")
                self.assertRaises(Taken, give, house, "other")
                self.assertEqual(stands(house), ahead)
                give(house, "peg")
                self.assertRaises(Taken, give, house, "peg")
            house = self.begun(letters)
            self.refused(Taken, house, "hang", "peg", (), (0,))
            house.hang("one", (), (1,))
            self.refused(Taken, house, "hang", "one", (), (0,))

    def test_a_guise_and_a_peg_may_have_one_name(self):
        for letters in BREADTHS:
            house = House(letters)
            house.hang("a", (), (0,))
            house.sew("a", counter_machine(letters))
            house.wear("a", "a")
            self.assertEqual((house.names(), house.pegs()), (["a"], ["a"]))
            self.assertEqual((house.word("a"), house.layers("a")), (((1,), (0,)), ["a"]))
            house.drop("a")
            self.assertEqual((house.names(), house.pegs()), ([], ["a"]))
            house.sew("a", ring_machine(letters, 2))
            house.unhang("a")
            self.assertEqual((house.names(), house.pegs()), (["a"], []))
            self.refused(NoPeg, house, "word", "a")

    def test_a_name_that_is_free_again(self):
        for letters in BREADTHS:
            house = self.begun(letters)
            house.drop("one")
            house.sew("one", ring_machine(letters, 2))
            self.assertEqual(house.guise("one"), ring(letters, 2))
            house.unhang("peg")
            house.hang("peg", (), (1,))
            house.undo()
            house.hang("peg", (0,), (1,))
            self.assertEqual(house.word("peg"), ((0,), (1,)))

    def test_texts_of_whatever_form_that_are_no_guise_or_no_peg(self):
        for letters in BREADTHS:
            house = self.begun(letters)
            house.hang("only", (), (0,))
            for text in BAD_NAMES + ("b", "onee", "on", "One", "peg", "only"):
                for deed, *handed in (
                    ("drop", text), ("guise", text), ("parted", text, "one"), ("parted", "one", text),
                    ("order", text, 9), ("floor", text, 2), ("join", "new", text, "one"), ("join", "new", "one", text),
                    ("turn", "new", text), ("look", "new", text, ()), ("power", "new", text, 1), ("wear", "peg", text),
                    ("sew", "new", [(swap(letters), (0,) * (letters - 1) + (text,))]),
                ):
                    with self.assertRaises(NoGuise):
                        getattr(house, deed)(*handed)
            for text in BAD_NAMES + ("b", "pegg", "pe", "Peg", "one", "other"):
                for deed, *handed in (
                    ("wear", text, "one"), ("doff", text), ("unhang", text), ("word", text), ("first_word", text),
                    ("layers", text), ("letter", text, 0), ("alike", text, "peg"), ("alike", "peg", text),
                ):
                    with self.assertRaises(NoPeg):
                        getattr(house, deed)(*handed)
            self.assertEqual(len(house.deeds()), 4)

    def test_names_and_pegs_are_rising_lists(self):
        house = House(2)
        for name in ("b", "ab", "aaa", "z", "ba", "a"):
            house.sew(name, ring_machine(2, 2))
            house.hang(name, (), (0,))
        rising = ["a", "aaa", "ab", "b", "ba", "z"]
        self.assertEqual((house.names(), house.pegs()), (rising, rising))


class Sewing(Refusing):
    def test_it_is_the_form_of_the_machine(self):
        for letters in BREADTHS:
            for seed in range(8):
                house = House(letters)
                rows = mixed_machine(letters, 1 + 5 * seed, seed)
                self.assertIsNone(house.sew("a", rows))
                self.assertEqual(house.guise("a"), form(letters, rows))
                self.assertTrue(is_tuples_all_through(house.guise("a")))

    def test_names_of_guises_as_goings(self):
        for letters in BREADTHS:
            house = House(letters)
            house.sew("a", counter_machine(letters))
            house.sew("b", [(swap(letters), ("a",) * letters)])
            self.assertEqual(house.guise("b"), branched(swap(letters), [counter(letters)] * letters))
            house.sew("c", [(swap(letters), ("a",) + ("b",) * (letters - 1))])
            self.assertEqual(house.guise("c"), branched(swap(letters), [house.guise("a")] + [house.guise("b")] * (letters - 1)))
            # A name begins at the guise's first row, whatever rows the machine has.
            rows = [(swap(letters), (1,) * letters), (tuple(range(letters)), ("b",) * (letters - 1) + (0,))]
            house.sew("d", rows)
            self.assertEqual(house.guise("d"), form(letters, laid_together(rows, {"b": house.guise("b")})))
            self.assertEqual(behind(house.guise("d"), (0, 0)), house.guise("b"))
            self.assertEqual(behind(house.guise("d"), (0, letters - 1)), house.guise("d"))

    def test_against_machines_laid_together(self):
        for letters in BREADTHS:
            for seed in range(25):
                house, numbers = House(letters), mixed_numbers(seed)
                guises = {"one": mixed(letters, 3, seed, swaps=2), "other": counter(letters), "third": ring(letters, 2)}
                for name, guise in guises.items():
                    house.sew(name, list(guise))
                rows = [
                    (one, tuple(
                        sorted(guises)[next(numbers) % 3] if next(numbers) % 3 == 0 else going for going in goings
                    ))
                    for one, goings in mixed_machine(letters, 1 + seed % 6, seed + 40, swaps=3)
                ]
                house.sew("all", rows)
                self.assertEqual(house.guise("all"), slow_form(laid_together(rows, guises)))
                self.assertTrue(is_tuples_all_through(house.guise("all")))

    def test_many_names_of_large_guises(self):
        for letters in BREADTHS:
            house = House(letters)
            for name in "abcdefghij":
                house.sew(name, ring_machine(letters, 60, (59,)))
            leave = tuple(range(letters))
            # All these names together have hundreds of rows, of which no more than sixty are unlike.
            house.sew("all", [(swap(letters), tuple("abcdefghij"[:letters]))])
            self.assertEqual(house.guise("all"), ring(letters, 60))
            house.sew("never", [(leave, (0,) * letters)] + [(leave, tuple("fghij"[:letters]))] * 59)
            self.assertEqual(house.guise("never"), still(letters))

    def test_counts_of_rows(self):
        for letters in BREADTHS:
            house = furnished(letters)
            one = (tuple(range(letters)), (0,) * letters)
            for many in (0, 61, 62, 400, 401):
                self.refused(BadMachine, house, "sew", "new", [one] * many)
            house.sew("new", [one])
            house.sew("newer", [one] * 60)
            self.assertEqual(house.guise("newer"), still(letters))

    def test_rows_that_are_none(self):
        for letters in BREADTHS:
            leave, goings = tuple(range(letters)), (0,) * letters
            house = furnished(letters)
            good = (leave, goings)
            for bad in (
                (leave[:-1] + (0,), goings), ((0,) * letters, goings), (leave + (letters,), goings),
                (leave[:-1], goings),
                (leave[:-1] + (letters,), goings), ((-1,) + leave[1:], goings), (tuple(range(1, letters + 1)), goings),
                ((), goings), (leave + (0,), goings), (leave, goings + (0,)), (leave, goings[1:]), (leave, ()),
                (leave, goings + ("a",)),
                (leave, ("a",) * (letters - 1)), (leave, (-1,) + goings[1:]), (leave, goings[1:] + (-1,)),
                (leave, (3,) + goings[1:]),
                (leave, goings[1:] + (3,)), (leave, ("a",) + goings[2:] + (3,)), (leave, (FAR,) * letters),
                (leave, (-FAR,) * letters),
            ):
                for rows in ([bad, good, good], [good, bad, good], [good, good, bad]):
                    self.assertRaises(BadMachine, house.sew, "new", rows)
            house.sew("new", [good, good, (leave, (2,) * letters)])

    def test_whole_machines_of_another_breadth(self):
        for letters in BREADTHS:
            house = House(letters)
            for other in BREADTHS:
                if other != letters:
                    self.refused(BadMachine, house, "sew", "new", counter_machine(other))

    def test_no_guise_also_in_rows_that_are_never_come_to(self):
        for letters in BREADTHS:
            house = furnished(letters)
            leave = tuple(range(letters))
            rows = [(leave, (0,) * letters), (leave, (1,) * (letters - 1) + ("none",))]
            self.refused(NoGuise, house, "sew", "new", rows)
            self.refused(NoGuise, house, "sew", "new", [(leave, ("new",) * letters)])
            house.sew("none", counter_machine(letters))
            house.sew("new", rows)
            self.assertEqual(house.guise("new"), still(letters))

    def test_bad_machine_goes_ahead_of_no_guise_wherever_it_is(self):
        for letters in BREADTHS:
            house = furnished(letters)
            leave = tuple(range(letters))
            rows = [(leave, ("none",) * letters), (leave, (0,) * (letters - 1) + (2,))]
            self.refused(BadMachine, house, "sew", "new", rows)
            self.refused(BadMachine, house, "sew", "new", [(leave, ("none",) * letters)] * 61)
            self.refused(BadMachine, house, "sew", "new", [(leave, ("none",) * (letters + 1))])

    def test_forms_of_just_sixty_rows_and_of_more(self):
        for letters in BREADTHS:
            leave = tuple(range(letters))
            house = House(letters)
            house.sew("sixty", chain_machine(letters, 60))
            self.assertEqual(len(house.guise("sixty")), 60)
            self.refused(TooMany, house, "sew", "new", [(leave, ("sixty",) * letters)])
            house.sew("least", chain_machine(letters, 59))
            house.sew("new", [(leave, ("least",) * letters)])
            self.assertEqual(house.guise("new"), chain(letters, 60))
            house.sew("thirty", chain_machine(letters, 30))
            ahead = [(leave, (row + 1,) * letters) for row in range(60)]
            self.refused(TooMany, house, "sew", "newer", ahead[:30] + [(leave, ("thirty",) * letters)])
            self.refused(TooMany, house, "sew", "newer", ahead[:59] + [(leave, ("thirty",) * letters)])
            house.sew("newer", ahead[:29] + [(leave, ("thirty",) * letters)])
            self.assertEqual(house.guise("newer"), chain(letters, 60))

    def test_refusals_in_order(self):
        refusals = [BadName, Taken, BadMachine, NoGuise, TooMany]
        for letters in BREADTHS:
            leave = tuple(range(letters))
            large = mixed_machine(letters, 60, 2)
            large[0] = (large[0][0], ("big",) + large[0][1][1:])
            named = large[:-1] + [(leave, ("none",) * letters)]
            wrong = named[:-1] + [(leave, ("none",) * (letters - 1) + (60,))]
            choices = [
                [("", BadName), ("Big", BadName), ("big", Taken), ("new", None)],
                [(large, None), (named, NoGuise), (wrong, BadMachine), ([], BadMachine), (large + large[:1], BadMachine)],
            ]
            self.refused_in_order(letters, "sew", refusals, choices, TooMany)

    def test_rows_changed_behind_the_call(self):
        for letters in BREADTHS:
            house = House(letters)
            rows = counter_machine(letters)
            held = deepcopy(rows)
            house.sew("a", rows)
            self.assertEqual(rows, held)
            ahead = stand(house)
            rows.reverse()
            rows.append(None)
            self.assertEqual(stand(house), ahead)
            rows.clear()
            self.assertEqual(stand(house), ahead)
            house.undo()
            house.redo()
            self.assertEqual(stand(house), ahead)
            bad = [(swap(letters), ("none",) * letters)]
            self.refused(NoGuise, house, "sew", "b", bad)
            self.assertEqual(bad, [(swap(letters), ("none",) * letters)])


class MadeOfGuises(Refusing):
    def test_what_they_make(self):
        for letters in BREADTHS:
            house = furnished(letters)
            one, other = house.guise("a"), house.guise("b")
            word = mixed_word(letters, 5, 1)
            self.assertIsNone(house.join("j", "a", "b"))
            self.assertIsNone(house.join("k", "b", "a"))
            self.assertIsNone(house.join("l", "a", "a"))
            self.assertIsNone(house.turn("t", "j"))
            self.assertIsNone(house.look("w", "j", word))
            self.assertIsNone(house.look("v", "j", ()))
            self.assertEqual(house.guise("j"), joined(one, other))
            self.assertEqual(house.guise("k"), joined(other, one))
            self.assertEqual(house.guise("l"), times(one, 2))
            self.assertEqual(house.guise("t"), back(joined(one, other)))
            self.assertEqual(house.guise("w"), behind(joined(one, other), word))
            self.assertEqual(house.guise("v"), house.guise("j"))
            for at, many in enumerate((-64, -3, -1, 0, 1, 2, 64)):
                self.assertIsNone(house.power("n" + "abcdefg"[at], "a", many))
                self.assertEqual(house.guise("n" + "abcdefg"[at]), times(one, many))

    def test_joins_of_sixty_rows_and_of_more(self):
        for letters in BREADTHS:
            house = House(letters)
            for many, name in ((4, "four"), (15, "fifteen"), (7, "seven"), (9, "nine")):
                house.sew(name, ring_machine(letters, many))
            house.join("sixty", "four", "fifteen")
            self.assertEqual(len(house.guise("sixty")), 60)
            self.refused(TooMany, house, "join", "more", "seven", "nine")

    def test_powers_that_are_refused(self):
        for letters in BREADTHS:
            house = furnished(letters)
            for many in (-65, 65, 66, FAR, -FAR):
                self.refused(BadCount, house, "power", "new", "a", many)
            for many in (2, -2, 4, 64):
                self.refused(TooMany, house, "power", "new", "more", many)
            house.power("new", "more", -1)

    def test_words_that_are_refused(self):
        for letters in BREADTHS:
            house = furnished(letters)
            for word in spoilt(mixed_word(letters, 5, 1), letters):
                self.assertRaises(BadWord, house.look, "new", "a", word)
            self.refused(BadWord, house, "look", "new", "a", (letters,))

    def test_refusals_in_order(self):
        new = [("A", BadName), ("", BadName), ("big", Taken), ("goes", None)]
        guises = [("none", NoGuise), ("?", NoGuise), ("goes", NoGuise), ("big", None)]
        for letters in BREADTHS:
            self.refused_in_order(letters, "join", [BadName, Taken, NoGuise, TooMany], [new, guises, guises], TooMany)
            self.refused_in_order(letters, "turn", [BadName, Taken, NoGuise], [new, guises[:-1]])
            self.refused_in_order(letters, "turn", [BadName, Taken, NoGuise], [new[:-1], guises])
            words = [((0, letters), BadWord), ((-1,), BadWord)]
            self.refused_in_order(letters, "look", [BadName, Taken, NoGuise, BadWord], [new, guises, words])
            self.refused_in_order(letters, "look", [BadName, Taken, NoGuise, BadWord], [new[:-1], guises, words + [((0,), None)]])
            counts = [(65, BadCount), (-65, BadCount), (2, None), (-64, None)]
            self.refused_in_order(
                letters, "power", [BadName, Taken, NoGuise, BadCount, TooMany], [new, guises, counts], TooMany
            )

    def test_what_was_made_stays(self):
        for letters in BREADTHS:
            house = furnished(letters)
            house.sew("s", [(swap(letters), ("a",) * letters)])
            house.join("j", "a", "b")
            house.turn("t", "a")
            house.look("w", "a", (0,))
            house.power("n", "a", 3)
            made = {name: house.guise(name) for name in "sjtwn"}
            house.drop("a")
            house.drop("b")
            self.assertEqual({name: house.guise(name) for name in "sjtwn"}, made)
            house.sew("a", stairs_machine(letters, 5))
            house.sew("b", counter_machine(letters))
            self.assertEqual({name: house.guise(name) for name in "sjtwn"}, made)
            house.join("jj", "a", "b")
            self.assertNotEqual(house.guise("jj"), made["j"])

    def test_drop(self):
        for letters in BREADTHS:
            house = furnished(letters)
            self.assertIsNone(house.drop("a"))
            self.assertEqual(house.names(), ["b", "big", "more"])
            self.refused(NoGuise, house, "drop", "a")
            self.refused(NoGuise, house, "guise", "a")
            self.refused(NoGuise, house, "drop", "p")


class Pegs(Refusing):
    def test_hang(self):
        for letters in BREADTHS:
            house, last = House(letters), letters - 1
            self.assertIsNone(house.hang("p", (0, last), (0, last, 0, last)))
            self.assertEqual((house.word("p"), house.first_word("p"), house.layers("p")), (((), (0, last)),) * 2 + ([],))
            for at, (beginning, ring_of) in enumerate(told_in_ways(((last, 0), (0, 0, last)))):
                house.hang("q", beginning, ring_of)
                self.assertEqual(house.word("q"), plain_word((last, 0), (0, 0, last)))
                self.assertTrue(is_plain(house.word("q")))
                self.assertTrue(is_tuples_all_through(house.word("q")))
                house.unhang("q")
            house.hang("long", mixed_word(letters, 1000, 1), mixed_word(letters, 1000, 2))
            self.assertEqual(house.word("long"), plain_word(mixed_word(letters, 1000, 1), mixed_word(letters, 1000, 2)))

    def test_words_that_are_refused(self):
        for letters in BREADTHS:
            house = furnished(letters)
            for word in spoilt((0, 1, 0), letters):
                self.assertRaises(BadWord, house.hang, "new", word, (0,))
                self.assertRaises(BadWord, house.hang, "new", (0,), word)
                self.assertRaises(BadWord, house.hang, "new", word, word)
            self.refused(BadWord, house, "hang", "new", (), ())
            self.refused(BadWord, house, "hang", "new", (0,), ())
            self.refused(BadWord, house, "hang", "new", (letters,), (0,))
            self.refused(BadWord, house, "hang", "new", (), (letters,))

    def test_hang_refusals_in_order(self):
        for letters in BREADTHS:
            names = [("A", BadName), ("", BadName), ("p", Taken), ("a", None)]
            words = [((), None), ((-1,), BadWord), ((0, letters), BadWord)]
            rings = [((), BadWord), ((letters,), BadWord)]
            self.refused_in_order(letters, "hang", [BadName, Taken, BadWord], [names, words, rings])
            self.refused_in_order(letters, "hang", [BadName, Taken, BadWord], [names[:-1], words, rings + [((0,), None)]])

    def test_wear(self):
        for letters in BREADTHS:
            house = furnished(letters)
            first = house.first_word("p")
            word = worn_endless(ring(letters, 3), worn_endless(counter(letters), first))
            self.assertEqual(first, plain_word((1, 0), (0, 1, 1)))
            self.assertEqual((house.word("p"), house.layers("p")), (word, ["a", "b"]))
            self.assertIsNone(house.wear("p", "a"))
            self.assertEqual((house.word("p"), house.layers("p")), (worn_endless(counter(letters), word), ["a", "b", "a"]))
            self.assertEqual(house.first_word("p"), first)
            self.assertEqual((house.word("q"), house.layers("q")), (((), (1,)), []))

    def test_words_of_a_thousand_letters_and_of_one_more(self):
        for letters in BREADTHS:
            last = letters - 1
            house = House(letters)
            house.sew("still", ring_machine(letters, 1, ()))
            house.hang("just", (0,) * 998 + (last,), (0,))
            house.wear("just", "still")
            self.assertEqual(house.word("just"), ((0,) * 998 + (last,), (0,)))
            house.hang("more", (0,) * 999 + (last,), (0,))
            self.refused(TooLong, house, "wear", "more", "still")
            house.hang("ring", (), (0,) * 999 + (last,))
            house.wear("ring", "still")
            house.hang("both", (0,), (0,) * 999 + (last,))
            self.refused(TooLong, house, "wear", "both", "still")
            # What counts is the plain word that comes, not the one that hangs there or how it was told.
            house.hang("told", (0,) * 1000, (0,) * 1000)
            house.wear("told", "still")
            self.assertEqual(house.word("told"), ((), (0,)))

    def test_words_that_grow_while_they_are_worn(self):
        for letters in BREADTHS:
            last = letters - 1
            house = House(letters)
            for name, many in (("seven", 7), ("eight", 8), ("more", 27)):
                house.sew(name, ring_machine(letters, many))
            house.hang("just", (), (0,) * 124 + (last,))
            house.wear("just", "eight")
            self.assertEqual([len(word) for word in house.word("just")], [0, 1000])
            house.hang("over", (), (0,) * 142 + (last,))
            self.refused(TooLong, house, "wear", "over", "seven")
            self.assertEqual((house.word("over"), house.layers("over")), (house.first_word("over"), []))
            house.hang("both", (last,), (0,) * 35 + (last, 0))
            house.wear("both", "more")
            self.assertEqual([len(word) for word in house.word("both")], [1, 999])
            house.hang("most", (last, last), (0,) * 35 + (last, 0))
            self.refused(TooLong, house, "wear", "most", "more")
            self.refused(TooLong, house, "wear", "just", "seven")
            self.assertEqual(house.layers("just"), ["eight"])
            # It comes back to fewer letters.
            house.wear("just", "eight")
            self.assertEqual(house.word("just"), house.first_word("just"))
            self.assertEqual(house.layers("just"), ["eight", "eight"])

    def test_wear_refusals_in_order(self):
        for letters in BREADTHS:
            house = House(letters)
            house.sew("still", ring_machine(letters, 1, ()))
            house.hang("long", (0,) * 1000 + (letters - 1,), (0,))
            for peg, guise, refusal in (
                ("none", "none", NoPeg), ("none", "still", NoPeg), ("still", "long", NoPeg), ("", "", NoPeg),
                ("long", "none", NoGuise), ("long", "long", NoGuise), ("long", "", NoGuise), ("long", "still", TooLong),
            ):
                self.refused(refusal, house, "wear", peg, guise)

    def test_doff(self):
        for letters in BREADTHS:
            house = furnished(letters)
            words = [house.word("p")]
            for name in ("a", "a", "b"):
                house.wear("p", name)
                words.append(house.word("p"))
            for left in (4, 3, 2):
                words.pop()
                self.assertIsNone(house.doff("p"))
                self.assertEqual((house.word("p"), house.layers("p")), (words[-1], ["a", "b", "a", "a", "b"][:left]))
            house.doff("p")
            house.doff("p")
            self.assertEqual((house.word("p"), house.layers("p")), (house.first_word("p"), []))
            self.refused(NothingWorn, house, "doff", "p")
            self.refused(NothingWorn, house, "doff", "q")
            self.refused(NoPeg, house, "doff", "none")
            self.refused(NoPeg, house, "doff", "a")
            house.wear("p", "b")
            self.assertEqual(house.layers("p"), ["b"])

    def test_guises_dropped_and_others_by_their_names_while_they_are_worn(self):
        for letters in BREADTHS:
            house = furnished(letters)
            first, word = house.first_word("p"), house.word("p")
            house.drop("a")
            house.drop("b")
            self.assertEqual((house.word("p"), house.layers("p")), (word, ["a", "b"]))
            house.sew("b", stairs_machine(letters, 4))
            house.sew("a", ring_machine(letters, 5))
            self.assertEqual((house.word("p"), house.layers("p")), (word, ["a", "b"]))
            house.wear("p", "b")
            house.doff("p")
            self.assertEqual(house.word("p"), word)
            house.doff("p")
            self.assertEqual((house.word("p"), house.layers("p")), (worn_endless(counter(letters), first), ["a"]))
            house.drop("a")
            house.doff("p")
            self.assertEqual((house.word("p"), house.first_word("p"), house.layers("p")), (first, first, []))

    def test_unhang(self):
        for letters in BREADTHS:
            house = furnished(letters)
            word = house.word("p")
            self.assertIsNone(house.unhang("p"))
            self.assertEqual(house.pegs(), ["q"])
            self.refused(NoPeg, house, "unhang", "p")
            self.refused(NoPeg, house, "word", "p")
            house.undo()
            self.assertEqual((house.word("p"), house.layers("p")), (word, ["a", "b"]))
            house.redo()
            house.hang("p", (), (0,))
            self.assertEqual(house.layers("p"), [])
            self.refused(NothingWorn, house, "doff", "p")


class TakenBack(Refusing):
    def done_and_stands(self, letters):
        """A house with every deed done, and how it stood ahead of each of them and behind the last one."""
        house = House(letters)
        told = [stand(house)]
        for deed, *handed in (
            ("sew", "a", counter_machine(letters)), ("sew", "b", [(swap(letters), ("a",) * letters)]),
            ("hang", "p", (0,), (1,)),
            ("wear", "p", "a"), ("join", "c", "a", "b"), ("wear", "p", "c"), ("turn", "d", "c"),
            ("look", "e", "c", (0,)),
            ("power", "f", "e", -3), ("drop", "a"), ("sew", "a", ring_machine(letters, 2)), ("wear", "p", "a"),
            ("doff", "p"),
            ("doff", "p"), ("hang", "q", (), (0, 1)), ("unhang", "p"), ("hang", "p", (), (0,)), ("drop", "c"),
            ("unhang", "q"),
        ):
            getattr(house, deed)(*handed)
            told.append(stand(house))
        return house, told

    def test_one_by_one_to_nothing_and_back(self):
        for letters in BREADTHS:
            house, told = self.done_and_stands(letters)
            for again in range(2):
                self.assertEqual(len(house.deeds()), len(told) - 1)
                for ahead in told[-2::-1]:
                    self.assertIsNone(house.undo())
                    self.assertEqual(stand(house), ahead)
                self.refused(NothingLeft, house, "undo")
                for behind_it in told[1:]:
                    self.assertIsNone(house.redo())
                    self.assertEqual(stand(house), behind_it)
                self.refused(NothingLeft, house, "redo")

    def test_a_done_deed_lets_go_of_what_was_taken_back(self):
        for letters in BREADTHS:
            house, told = self.done_and_stands(letters)
            house.undo()
            house.undo()
            house.hang("new", (), (1,))
            self.refused(NothingLeft, house, "redo")
            self.assertEqual(house.deeds(), told[-3][1] + ["hang new - 1"])
            house.undo()
            self.assertEqual(stand(house), told[-3])
            house.redo()
            self.refused(NothingLeft, house, "redo")

    def test_a_refused_deed_does_not(self):
        for letters in BREADTHS:
            house, told = self.done_and_stands(letters)
            for count in range(12):
                house.undo()
            for deed, *handed in (
                ("sew", "A", []), ("sew", "a", []), ("sew", "z", []),
                ("sew", "z", [(swap(letters), ("none",) * letters)]),
                ("join", "z", "none", "a"), ("turn", "z", "none"), ("look", "z", "a", (letters,)),
                ("power", "z", "a", 65),
                ("drop", "none"), ("hang", "p", (), (0,)), ("hang", "z", (), ()), ("wear", "none", "a"),
                ("wear", "p", "none"), ("doff", "none"), ("unhang", "none"),
            ):
                with self.assertRaises(GuiseError):
                    getattr(house, deed)(*handed)
            for behind_it in told[-12:]:
                house.redo()
                self.assertEqual(stand(house), behind_it)

    def test_some_hundreds_of_deeds(self):
        for letters in BREADTHS:
            house, told = House(letters), []
            house.sew("a", counter_machine(letters))
            house.hang("p", (), (0,))
            for count in range(150):
                told.append(stand(house))
                house.wear("p", "a")
                told.append(stand(house))
                house.hang("q" + "abcdefghij"[count % 10] + "abcdefghijklmno"[count // 10], (1,) * count, (0,))
            last = stand(house)
            self.assertEqual(len(house.deeds()), 302)
            self.assertEqual(house.layers("p"), ["a"] * 150)
            for ahead in told[::-1]:
                house.undo()
                self.assertEqual(stand(house), ahead)
            for count in range(300):
                house.redo()
            self.assertEqual(stand(house), last)
            for count in range(150):
                house.doff("p")
            self.assertEqual((house.word("p"), house.layers("p")), (((), (0,)), []))


class Twins(Refusing):
    def test_a_twin_stands_as_the_house_does(self):
        for letters in BREADTHS:
            house = furnished(letters)
            other = house.twin()
            self.assertIsInstance(other, House)
            self.assertIsNot(other, house)
            self.assertEqual(stands(other), stands(house))
            self.assertEqual(stands(other.twin()), stands(house))
            self.assertEqual(len(stands(other)), 1 + 8 + 2)
            self.assertEqual(stands(House(letters).twin()), stands(House(letters)))

    def test_what_is_done_to_one_changes_nothing_of_the_other(self):
        for letters in BREADTHS:
            for deed, *handed in (
                ("sew", "z", counter_machine(letters)), ("join", "z", "a", "b"), ("turn", "z", "a"),
                ("look", "z", "a", ()),
                ("power", "z", "a", 2), ("drop", "a"), ("hang", "z", (), (0,)), ("wear", "p", "a"), ("doff", "p"),
                ("unhang", "p"), ("undo",), ("redo",),
            ):
                house = furnished(letters)
                other = house.twin()
                third = other.twin()
                ahead = stands(house)
                getattr(other, deed)(*handed)
                self.assertEqual(stands(house), ahead)
                self.assertEqual(stands(third), ahead)
                changed = stands(other)
                self.assertNotEqual(changed, ahead)
                getattr(house, deed)(*handed)
                self.assertEqual(stands(house), changed)
                house.undo()
                house.undo()
                house.hang("zz", (), (0,))
                self.assertEqual(stands(other), changed)
                self.assertEqual(stands(third), ahead)


class Looks(Refusing):
    def test_each_as_the_functions_tell_it(self):
        for letters in BREADTHS:
            house = furnished(letters)
            one, other = house.guise("a"), house.guise("b")
            self.assertEqual(house.parted("a", "b"), parted(one, other))
            self.assertEqual(house.parted("a", "big"), parted(one, house.guise("big")))
            self.assertIsNone(house.parted("a", "a"))
            for most in (1, 2, 64):
                self.assertEqual(house.order("a", most), order(one, most))
                self.assertEqual(house.order("b", most), order(other, most))
            for many in (0, 1, 3):
                self.assertEqual(house.floor("big", many), floor(house.guise("big"), many))
            for place in (0, 1, 2, 3, 10, FAR):
                self.assertEqual(house.letter("p", place), letter_at(house.word("p"), place))
            self.assertEqual(house.alike("p", "q"), alike_for(house.word("p"), house.word("q")))
            self.assertIsNone(house.alike("p", "p"))

    def test_refusals(self):
        for letters in BREADTHS:
            house = furnished(letters)
            self.refused(NoGuise, house, "parted", "none", "p")
            for most in (0, 65, -1, FAR, -FAR):
                self.refused(BadCount, house, "order", "big", most)
                self.refused(NoGuise, house, "order", "none", most)
            self.refused(TooMany, house, "order", "more", 64)
            self.assertIsNone(house.order("more", 1))
            for many in (-1, -FAR):
                self.refused(BadCount, house, "floor", "a", many)
                self.refused(NoGuise, house, "floor", "p", many)
            for many in (11, 1000, FAR):
                self.refused(TooMany, house, "floor", "a", many)
                self.refused(NoGuise, house, "floor", "none", many)
            for place in (-1, -2, -FAR):
                self.refused(BadCount, house, "letter", "p", place)
                self.refused(NoPeg, house, "letter", "none", place)
            self.refused(NoPeg, house, "alike", "none", "other")

    def test_they_are_no_deeds(self):
        for letters in BREADTHS:
            house = furnished(letters)
            ahead = stands(house)
            for count in range(2):
                self.assertEqual(house.letters(), letters)
                house.names(), house.pegs(), house.guise("a"), house.word("p"), house.first_word("p"), house.layers("p")
                house.parted("a", "b"), house.order("a", 9), house.floor("a", 2), house.letter("p", 9), house.alike("p", "q")
                house.deeds(), house.twin()
            self.assertEqual(stands(house), ahead)
            house.redo()
            house.redo()
            self.assertIn("goes", house.names())

    def test_told_lists_that_are_changed(self):
        for letters in BREADTHS:
            house = furnished(letters)
            ahead = stands(house)
            floor_ahead = house.floor("a", 2)
            for told in (house.names(), house.pegs(), house.layers("p"), house.deeds(), house.floor("a", 2)):
                self.assertIs(type(told), list)
                told.reverse()
                told.append("x")
                told.clear()
            self.assertEqual(stands(house), ahead)
            self.assertEqual(house.floor("a", 2), floor_ahead)

    def test_how_the_arguments_are_called(self):
        house = House(2)
        house.sew(name="a", rows=counter_machine(2))
        house.join(name="b", one="a", other="a")
        house.turn(name="c", one="a")
        house.look(name="d", one="a", word=(1,))
        house.power(name="e", one="a", many=2)
        house.hang(peg="p", beginning=(), ring=(0,))
        house.wear(peg="p", name="a")
        self.assertEqual(house.guise(name="d"), counter(2))
        self.assertEqual(house.word(peg="p"), ((1,), (0,)))
        self.assertEqual(house.first_word(peg="p"), ((), (0,)))
        self.assertEqual(house.layers(peg="p"), ["a"])
        self.assertIsNone(house.parted(one="b", other="e"))
        self.assertIsNone(house.order(name="a", most=3))
        self.assertEqual(house.floor(name="a", many=1), [1, 0])
        self.assertEqual(house.letter(peg="p", place=0), 1)
        self.assertIsNone(house.alike(peg="p", other="p"))
        house.doff(peg="p")
        house.unhang(peg="p")
        house.drop(name="a")


class SlowHouse:
    """A house kept as whole copies, one for each deed; refusals are told by their class."""

    def __init__(self, letters):
        self.letters = letters
        self.copies = [({}, {})]
        self.again = []

    def due(self, deed, handed):
        """The refusal of a deed, or what the house holds behind it."""
        guises, pegs = deepcopy(self.copies[-1])
        if deed in ("drop", "wear", "doff", "unhang"):
            return self.changed(deed, handed, guises, pegs)
        name, held = handed[0], pegs if deed == "hang" else guises
        if not 1 <= len(name) <= 12 or set(name) - set("abcdefghijklmnopqrstuvwxyz"):
            return BadName
        if name in held:
            return Taken
        if deed == "hang":
            if not handed[2] or set(handed[1] + handed[2]) - set(range(self.letters)):
                return BadWord
            held[name] = [(None, plain_word(handed[1], handed[2]))]
            return guises, pegs
        try:
            held[name] = self.made(deed, handed[1:], guises)
        except KeyError:
            return NoGuise
        except GuiseError as refusal:
            return type(refusal)
        return guises, pegs

    def made(self, deed, handed, guises):
        if deed == "sew":
            rows = handed[0]
            form(self.letters, [(one, tuple(0 if type(going) is str else going for going in goings)) for one, goings in rows])
            named = {going: guises[going] for one, goings in rows for going in goings if type(going) is str}
            return form(self.letters, laid_together(rows, named))
        if deed == "join":
            return joined(guises[handed[0]], guises[handed[1]])
        return {"turn": back, "look": behind, "power": times}[deed](guises[handed[0]], *handed[1:])

    def changed(self, deed, handed, guises, pegs):
        if deed == "drop":
            return (guises, pegs) if guises.pop(handed[0], None) else NoGuise
        if handed[0] not in pegs:
            return NoPeg
        layers = pegs[handed[0]]
        if deed == "unhang":
            del pegs[handed[0]]
        elif deed == "doff":
            if len(layers) == 1:
                return NothingWorn
            layers.pop()
        else:
            if handed[1] not in guises:
                return NoGuise
            word = worn_endless(guises[handed[1]], layers[-1][1])
            if sum(map(len, word)) > 1000:
                return TooLong
            layers.append((handed[1], word))
        return guises, pegs

    def ask(self, deed, handed):
        if deed in ("undo", "redo"):
            if not (self.copies[1:] if deed == "undo" else self.again):
                return NothingLeft
            if deed == "undo":
                self.again.append(self.copies.pop())
            else:
                self.copies.append(self.again.pop())
            return None
        told = self.due(deed, handed)
        if isinstance(told, type):
            return told
        self.copies.append(told)
        self.again = []
        return None


class LongRuns(unittest.TestCase):
    def handed(self, letters, numbers):
        """A deed without a plain order, good or bad, and what it is handed."""
        def some(things):
            return things[next(numbers) % len(things)]

        guises, pegs = ("a", "b", "c", "d", "e", "E"), ("p", "q", "r", "a", "P q")
        machine = mixed_machine(letters, 1 + next(numbers) % 3, next(numbers), swaps=3)
        one, goings = machine[0]
        machine[0] = (one, some([goings, goings, ("a",) + goings[1:], goings[1:] + (some(guises),), goings + (0,)]))
        word = mixed_word(letters + (next(numbers) % 9 == 0), next(numbers) % 4, next(numbers))
        deeds = "sew sew join turn look power drop hang wear wear doff unhang undo redo undo"
        deed = some(deeds.split())
        return deed, {
            "sew": (some(guises), machine), "join": (some(guises), some(guises), some(guises)),
            "turn": (some(guises), some(guises)), "look": (some(guises), some(guises), word),
            "power": (some(guises), some(guises), some([-65, -2, -1, 0, 1, 2, 3, 64, 65])),
            "drop": (some(guises),), "hang": (some(pegs), word, word[::-1] + some([(), (0,), (1, 0, 0)])),
            "wear": (some(pegs), some(guises)), "doff": (some(pegs),), "unhang": (some(pegs),), "undo": (), "redo": (),
        }[deed]

    def test_against_a_house_of_whole_copies(self):
        met = set()
        for letters in BREADTHS:
            for seed in range(3):
                house, slow, numbers = House(letters), SlowHouse(letters), mixed_numbers(seed + 10 * letters)
                for count in range(250):
                    deed, handed = self.handed(letters, numbers)
                    refusal = slow.ask(deed, handed)
                    try:
                        self.assertIsNone(getattr(house, deed)(*handed))
                        told = None
                    except GuiseError as caught:
                        told = type(caught)
                    self.assertIs(told, refusal, (deed, handed))
                    met.add((deed, told))
                    guises, pegs = slow.copies[-1]
                    letters_told, lines, forms, words = stand(house)
                    self.assertEqual(forms, guises)
                    self.assertEqual(words, {
                        peg: (layers[-1][1], layers[0][1], [name for name, word in layers[1:]]) for peg, layers in pegs.items()
                    })
                    self.assertEqual(len(lines), len(slow.copies) - 1)
                    if count % 40 == 0:
                        house = house.twin()
        for deed in ("sew", "join", "turn", "look", "power", "drop", "hang", "wear", "doff", "unhang", "undo", "redo"):
            self.assertIn((deed, None), met)
        for refusal in (BadName, Taken, BadMachine, NoGuise):
            self.assertIn(("sew", refusal), met)


class EachRefusal(unittest.TestCase):
    def test_its_own_class_and_none_of_the_others(self):
        house = furnished(2)
        house.hang("long", (0,) * 1000 + (1,), (0,))
        every = [held for held in vars(errors).values() if isinstance(held, type) and held is not GuiseError]
        asked = {
            BadBreadth: lambda: House(6), BadMachine: lambda: house.sew("z", []),
            BadWord: lambda: house.hang("z", (), ()),
            BadCount: lambda: house.letter("p", -1), BadName: lambda: house.turn("Z", "a"),
            Taken: lambda: house.turn("a", "a"),
            NoGuise: lambda: house.guise("z"), NoPeg: lambda: house.word("z"), TooMany: lambda: house.order("more", 2),
            TooLong: lambda: house.wear("long", "b"), NothingWorn: lambda: house.doff("q"),
            NothingLeft: lambda: House(2).undo(), BadLine: lambda: read_line(""), BadPage: lambda: read_page(""),
        }
        self.assertEqual(len(every), 14)
        self.assertEqual(set(asked), set(every))
        for refusal, ask in asked.items():
            with self.assertRaises(ValueError) as caught:
                ask()
            held = [one for one in every if isinstance(caught.exception, one)]
            self.assertEqual(held, [refusal])
            self.assertIsInstance(caught.exception, GuiseError)


class OneRow(unittest.TestCase):
    def test_all_machines_of_one_row(self):
        for letters in BREADTHS:
            house = House(letters)
            for at, one in enumerate(rearrangings(letters)):
                name = "n" + "abcdefghij"[at // 10 % 10] + "abcdefghij"[at % 10] + "ab"[at // 100]
                house.sew(name, [(one, (0,) * letters)])
                self.assertEqual(house.guise(name), ((one, (0,) * letters),))
