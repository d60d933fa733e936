import unittest

from guisery.errors import BadPage, GuiseError, NothingLeft
from guisery.house import House
from guisery.notes import page, read_page

from helper import BREADTHS, FAR, counter, counter_machine, mixed_machine, ring_machine, stand, stands, swap

DEEDS = [
    "join c a b", "turn d c", "look e a -", "look f a 010", "power g a -2", "drop c", "hang p - 0000",
    "hang q 1 011011",
    "wear p a", "wear p b", "doff p", "wear q b", "unhang p", "sew c {swapped} a{more}", "power h c 2",
]


def figures(numbers):
    return "".join(map(str, numbers))


def lines(letters):
    """The lines of a page that has each deed."""
    swapped, leave = figures(swap(letters)), figures(range(letters))
    told = [f"letters {letters}", f"sew a {swapped}{' 1' * (letters - 1)} 0 / {leave}{' 1' * letters}"]
    told.append(f"sew b {swapped}{' 1' * letters} / {leave}{' 0' * letters}")
    return told + [line.format(swapped=swapped, more=" 0" * (letters - 1)) for line in DEEDS]


class Pages(unittest.TestCase):
    def refused_at(self, at, text):
        with self.assertRaises(BadPage, msg=text) as caught:
            read_page(text)
        self.assertEqual(caught.exception.at, at, text)
        self.assertIs(type(caught.exception), BadPage)
        self.assertIsInstance(caught.exception, GuiseError)

    def test_an_empty_house(self):
        for letters in BREADTHS:
            self.assertEqual(page(House(letters)), f"letters {letters}")
            house = read_page(f"letters {letters}")
            self.assertIsInstance(house, House)
            self.assertEqual(stands(house), stands(House(letters)))

    def test_a_page_that_has_each_deed(self):
        for letters in BREADTHS:
            text = "\n".join(lines(letters))
            house = read_page(text)
            self.assertEqual(page(house), text)
            self.assertEqual(house.deeds(), lines(letters)[1:])
            self.assertEqual(house.names(), ["a", "b", "c", "d", "e", "f", "g", "h"])
            self.assertEqual((house.pegs(), house.layers("q")), (["q"], ["b"]))
            self.assertEqual(house.first_word("q"), ((), (1, 0, 1)))

    def test_read_again_it_stands_the_same_and_is_taken_back_deed_by_deed(self):
        for letters in BREADTHS:
            house = House(letters)
            house.sew("a", counter_machine(letters))
            house.sew("b", mixed_machine(letters, 5, 2))
            house.sew("c", [(swap(letters), ("a",) + (0,) * (letters - 2) + ("b",))])
            house.hang("p", (0,) * 800, (1, 0) * 500)
            house.wear("p", "c")
            house.drop("c")
            house.sew("c", ring_machine(letters, 60))
            house.wear("p", "c")
            house.doff("p")
            other = read_page(page(house))
            self.assertEqual(stands(other), stands(house))
            self.assertEqual(page(other), page(house))
            for count in range(9):
                self.assertEqual(stand(other), stand(house))
                house.undo()
                other.undo()
            self.assertRaises(NothingLeft, other.undo)
            self.assertEqual(page(other), f"letters {letters}")

    def test_only_the_deeds_that_stand_are_on_it(self):
        for letters in BREADTHS:
            house = read_page("\n".join(lines(letters)))
            for count in range(5):
                house.undo()
            self.assertEqual(page(house), "\n".join(lines(letters)[:-5]))
            other = read_page(page(house))
            self.assertEqual(stand(other), stand(house))
            self.assertRaises(NothingLeft, other.redo)
            house.redo()
            self.assertEqual(page(house), "\n".join(lines(letters)[:-4]))
            self.assertEqual(page(other), "\n".join(lines(letters)[:-5]))
            while house.deeds():
                house.undo()
            self.assertEqual(page(house), f"letters {letters}")

    def test_a_page_changes_nothing(self):
        for letters in BREADTHS:
            house = read_page("\n".join(lines(letters)))
            house.undo()
            ahead = stands(house)
            self.assertEqual(page(house), page(house))
            self.assertEqual(stands(house), ahead)

    def test_two_houses_of_one_page_do_not_know_of_one_another(self):
        for letters in BREADTHS:
            text = "\n".join(lines(letters))
            one, other = read_page(text), read_page(text)
            one.drop("a")
            self.assertEqual(other.guise("a")[0][0], swap(letters))
            self.assertEqual(page(other), text)

    def test_a_first_row_that_is_none(self):
        for head in (
            "", "letters", "letters ", "letters 1", "letters 6", "letters 0", "letters -2", "letters 02", "letters +2",
            "letters 2 ",
            " letters 2", "letters  2", "letters 2 3", "letters a", "letters 23", f"letters {FAR}", "Letters 2",
            "letter 2", "2", "drop a", "hang p - 0", "letters two", "letters 2.0", "letters 3,",
        ):
            self.refused_at(1, head)
            self.refused_at(1, head + "\nhang p - 0")
            self.refused_at(1, head + "\nnot a deed\n\n")
            self.refused_at(1, "\n" + head)

    def test_rows_that_write_no_deed(self):
        for letters in BREADTHS:
            rows = lines(letters)
            for at in range(1, len(rows)):
                unread = ("", "what", "undo", "redo", "page", "names", "drop A", f"letters {letters}")
                for bad in unread + (rows[at] + " ", " " + rows[at]):
                    self.refused_at(at + 1, "\n".join(rows[:at] + [bad] + rows[at + 1:]))
                    self.refused_at(at + 1, "\n".join(rows[:at] + [bad] + rows[at:]))
                    self.refused_at(at + 1, "\n".join(rows[:at] + [bad, bad]))
            self.refused_at(len(rows) + 1, "\n".join(rows + ["nothing"]))

    def test_deeds_that_are_refused(self):
        for letters in BREADTHS:
            rows = lines(letters)[:13]
            for bad in (
                "sew a " + rows[1][6:], "sew z 0", f"sew z {figures(swap(letters))}{' none' * letters}",
                "join z a none", "turn z none",
                f"look z a {letters}", "look z a 9", "power z a 65", "power z a -" + "9" * 60, "drop c", "hang p - 0",
                f"hang z - {letters}", "hang z 9 0", "wear none a", "wear p none", "doff q", "doff none", "unhang none",
            ):
                self.refused_at(14, "\n".join(rows + [bad]))
                self.refused_at(14, "\n".join(rows + [bad, "what", bad]))
            read_page("\n".join(rows))

    def test_each_refusal_of_deeds(self):
        for letters in BREADTHS:
            leave, last = figures(range(letters)), letters - 1
            still = f"sew s {leave}{' 0' * letters}"
            long = f"hang p {'0' * 1000}{last} 0"
            self.refused_at(4, f"letters {letters}\n{still}\n{long}\nwear p s")
            chained = " / ".join(leave + f" {row + 1}" * letters for row in range(59))
            sixty = f"sew t {chained} / {figures(swap(letters))}{' 59' * letters}"
            self.refused_at(3, f"letters {letters}\n{sixty}\nsew u {leave}{' t' * letters}")
            self.refused_at(3, f"letters {letters}\nhang p - 0\ndoff p\nunhang p")

    def test_line_feeds_at_the_ends(self):
        for letters in BREADTHS:
            rows = lines(letters)
            text = "\n".join(rows)
            self.refused_at(1, "\n" + text)
            self.refused_at(len(rows) + 1, text + "\n")
            self.refused_at(len(rows) + 1, text + "\n\n")
            self.refused_at(2, f"letters {letters}\n")
            self.refused_at(2, text.replace("\n", "\n\n", 1))
            self.refused_at(1, "\n")

    def test_some_hundreds_of_deeds(self):
        for letters in BREADTHS:
            house = House(letters)
            house.sew("a", counter_machine(letters))
            house.hang("p", (), (0,))
            for count in range(300):
                house.wear("p", "a")
            text = page(house)
            other = read_page(text)
            self.assertEqual(stand(other), stand(house))
            self.assertEqual(text.count("\n"), 302)
            self.refused_at(304, text + "\nwear p b")
            self.assertEqual(other.guise("a"), counter(letters))

    def test_how_the_arguments_are_called(self):
        self.assertEqual(page(house=read_page(text="letters 3")), "letters 3")
