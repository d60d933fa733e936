import unittest
from copy import deepcopy

from guisery.errors import BadLine
from guisery.house import House
from guisery.lines import read_line, rows_written
from guisery.machines import still

from helper import BREADTHS, mixed_machine, some_guises, swap

SOUND = [
    ("sew a 01 0 0", ("sew", "a", [((0, 1), (0, 0))])),
    ("sew a 10 1 0 / 01 1 1", ("sew", "a", [((1, 0), (1, 0)), ((0, 1), (1, 1))])),
    ("sew a 10 b 0 / 01 a twelveletter", ("sew", "a", [((1, 0), ("b", 0)), ((0, 1), ("a", "twelveletter"))])),
    ("sew sew 10 sew join", ("sew", "sew", [((1, 0), ("sew", "join"))])), ("join a b c", ("join", "a", "b", "c")),
    ("join join join join", ("join", "join", "join", "join")), ("turn a b", ("turn", "a", "b")),
    ("turn abcdefghijkl mnopqrstuvwx", ("turn", "abcdefghijkl", "mnopqrstuvwx")),
    ("look a b 0110", ("look", "a", "b", (0, 1, 1, 0))),
    ("look a b -", ("look", "a", "b", ())),
    ("look a b 0123456789", ("look", "a", "b", (0, 1, 2, 3, 4, 5, 6, 7, 8, 9))),
    ("look a b 00", ("look", "a", "b", (0, 0))),
    ("power a b 0", ("power", "a", "b", 0)),
    ("power a b 64", ("power", "a", "b", 64)),
    ("power a b -64", ("power", "a", "b", -64)),
    ("power a b 100", ("power", "a", "b", 100)),
    ("power a b " + "9" * 60, ("power", "a", "b", 10 ** 60 - 1)),
    ("power a b -" + "9" * 60, ("power", "a", "b", 1 - 10 ** 60)),
    ("power a b 1" + "0" * 59, ("power", "a", "b", 10 ** 59)),
    ("drop z", ("drop", "z")),
    ("hang p - 0", ("hang", "p", (), (0,))),
    ("hang p 01 0011", ("hang", "p", (0, 1), (0, 0, 1, 1))),
    ("hang p 9 89", ("hang", "p", (9,), (8, 9))),
    ("wear p a", ("wear", "p", "a")),
    ("doff p", ("doff", "p")),
    ("unhang p", ("unhang", "p")),
]

BAD_NAMES = ("", "A", "aB", "a1", "1", "a_b", "a-b", "-", "a.", "/", "thirteenlongs", "a" * 13, "a" * 200, "a\n", "\na", "{", "`")
BAD_WORDS = ("", "a", "01a", "0-", "-0", "--", "-1", "+1", "0.1", "0,1", "0/1", "/", "0\n", "\n0", "_0", "0_1")
BAD_NUMBERS = (
    "", "-", "--1", "-0", "00", "01", "-01", "-00", "+1", "+0", "1-", "1.0", "1_0", "a", "1a", "1\n", "\n1", "0x1",
    "1e1", "- 1", "1" + "0" * 60, "-1" + "0" * 60, "9" * 61, "-" + "9" * 61, "9" * 5000, "0" * 60,
)


class Rows(unittest.TestCase):
    def test_ordinary_ones(self):
        self.assertEqual(rows_written([((0, 1), (0, 0))]), "01 0 0")
        self.assertEqual(rows_written([((1, 0), (1, 0)), ((0, 1), (1, 1))]), "10 1 0 / 01 1 1")
        self.assertEqual(rows_written([((1, 2, 0), ("a", 10, "other")), ((0, 1, 2), (0, 59, 1))]), "120 a 10 other / 012 0 59 1")

    def test_figures_and_goings_of_whatever_count(self):
        self.assertEqual(rows_written([((9, 8, 7, 6, 5, 4, 3, 2, 1, 0), ())]), "9876543210")
        self.assertEqual(rows_written([((0,), ()), ((1,), ("a",))]), "0 / 1 a")
        self.assertEqual(rows_written([((3, 3), (10 ** 60 - 1, 0, "x", 7))]), f"33 {'9' * 60} 0 x 7")

    def test_forms_are_written_too(self):
        for letters in BREADTHS:
            leave = "".join(str(letter) for letter in range(letters))
            self.assertEqual(rows_written(still(letters)), leave + " 0" * letters)
            for guise in some_guises(letters):
                rows = [" ".join(["".join(map(str, one))] + list(map(str, goings))) for one, goings in guise]
                self.assertEqual(rows_written(guise), " / ".join(rows))
                self.assertEqual(rows_written(list(guise)), " / ".join(rows))

    def test_there_and_back(self):
        for letters in BREADTHS:
            for many in (1, 2, 60, 400):
                rows = mixed_machine(letters, many, many)
                rows[many // 2] = (swap(letters), ("a", "twelveletter") + (0,) * (letters - 2))
                held = deepcopy(rows)
                self.assertEqual(read_line("sew n " + rows_written(rows)), ("sew", "n", rows))
                self.assertEqual(rows, held)

    def test_its_argument_is_called_rows(self):
        self.assertEqual(rows_written(rows=[((0, 1), ("a", 1))]), "01 a 1")


class Lines(unittest.TestCase):
    def refused(self, line):
        with self.assertRaises(BadLine, msg=line):
            read_line(line)

    def test_each_deed(self):
        for line, deed in SOUND:
            told = read_line(line)
            self.assertEqual(told, deed)
            self.assertIs(type(told), tuple)
            for part, same in zip(told, deed):
                self.assertIs(type(part), type(same))

    def test_rows_are_a_list_of_pairs_of_tuples(self):
        name, called, rows = read_line("sew a 120 0 b 1 / 012 1 1 1")
        self.assertEqual((name, called), ("sew", "a"))
        self.assertIs(type(rows), list)
        for row in rows:
            self.assertIs(type(row), tuple)
            self.assertEqual([type(part) for part in row], [tuple, tuple])

    def test_a_told_list_that_is_changed(self):
        read_line("sew a 01 0 0")[2].clear()
        self.assertEqual(read_line("sew a 01 0 0"), ("sew", "a", [((0, 1), (0, 0))]))

    def test_what_a_line_comes_to_is_the_deeds_to_refuse(self):
        for line, deed in (
            ("sew a 9", ("sew", "a", [((9,), ())])),
            ("sew a 00", ("sew", "a", [((0, 0), ())])),
            ("sew a 0123456789 0", ("sew", "a", [((0, 1, 2, 3, 4, 5, 6, 7, 8, 9), (0,))])),
            ("sew a 01 / 10", ("sew", "a", [((0, 1), ()), ((1, 0), ())])),
            ("sew a 01 0 0 0 0 0 0 0", ("sew", "a", [((0, 1), (0,) * 7)])),
            ("sew a 01 99 100000", ("sew", "a", [((0, 1), (99, 100000))])),
            ("sew a 01 " + "9" * 60, ("sew", "a", [((0, 1), (10 ** 60 - 1,))])),
            ("sew a 01 a a", ("sew", "a", [((0, 1), ("a", "a"))])),
            ("join a a a", ("join", "a", "a", "a")),
            ("power a a 65", ("power", "a", "a", 65)),
            ("look a a 777", ("look", "a", "a", (7, 7, 7))),
            ("hang p 5 5", ("hang", "p", (5,), (5,))),
        ):
            self.assertEqual(read_line(line), deed)
        self.assertEqual(read_line("sew a" + " 01 0 0 /" * 500 + " 01 0 0")[2], [((0, 1), (0, 0))] * 501)
        self.assertEqual(read_line("hang p " + "0" * 2000 + " " + "1" * 3000), ("hang", "p", (0,) * 2000, (1,) * 3000))
        self.assertEqual(read_line("sew a " + "0" * 100), ("sew", "a", [((0,) * 100, ())]))

    def test_names(self):
        shapes = ("sew {} 01 0 0", "join {} b c", "join a {} c", "join a b {}", "turn {} b", "turn a {}", "look {} b 0")
        shapes += ("look a {} 0", "power {} b 1", "power a {} 1", "drop {}", "hang {} - 0", "wear {} a", "wear p {}")
        shapes += ("doff {}", "unhang {}")
        for shape in shapes:
            for name in ("a", "z", "abcdefghijkl", "done", "what", "undo"):
                self.assertIn(name, read_line(shape.replace("{}", name)))
            for name in BAD_NAMES:
                self.refused(shape.replace("{}", name))

    def test_words(self):
        for shape in ("look a b {}", "hang p {} 0", "hang p - {}"):
            for word in BAD_WORDS:
                self.refused(shape.replace("{}", word))
        self.assertEqual(read_line("hang p - 10")[2:], ((), (1, 0)))
        self.refused("hang p - -")
        self.refused("hang p 0 -")

    def test_numbers(self):
        for number in BAD_NUMBERS:
            self.refused("power a b " + number)

    def test_rearrangings(self):
        for figures in BAD_WORDS + ("-", "a", "01-"):
            self.refused(f"sew a {figures} 0 0")
            self.refused(f"sew a 01 0 0 / {figures} 0 0")
            self.refused(f"sew a {figures}")

    def test_goings(self):
        for going in BAD_NUMBERS + ("-1", "-5", "-" + "9" * 60, "A", "aB", "a" * 13, "a1", "1a", "//"):
            # What is no number may yet be a name.
            if going != "a":
                self.refused(f"sew a 01 0 {going}")
                self.refused(f"sew a 01 {going} 0")
                self.refused(f"sew a 01 0 0 / 10 {going} 1")

    def test_rows_one_at_least_and_signs_between(self):
        for line in (
            "sew a", "sew a ", "sew a /", "sew a / ", "sew a  / ", "sew a / 01 0 0", "sew a 01 0 0 /",
            "sew a 01 0 0 / ",
            "sew a 01 0 0 / / 10 0 0", "sew a 01 0 0 /  / 10 0 0", "sew a 01 0 0 // 10 0 0", "sew a 01 0 0/ 10 0 0",
            "sew a 01 0 0 /10 0 0", "sew a 01 0 0  / 10 0 0", "sew a 01 0 0 /  10 0 0", "sew a 01 0 0\n10 0 0",
            "sew a 01,0,0",
        ):
            self.refused(line)

    def test_blanks_and_line_feeds(self):
        for line, deed in SOUND:
            for bad in (" " + line, line + " ", "\n" + line, line + "\n", line + "\n" + line, line.replace(" ", "\n", 1)):
                self.refused(bad)
            for at in [at for at, sign in enumerate(line) if sign == " "]:
                self.refused(line[:at] + " " + line[at:])
                # Rows may stand without any going, so rows without a blank may be other rows.
                if deed[0] != "sew":
                    self.refused(line[:at] + line[at + 1:])

    def test_too_few_parts_and_too_many(self):
        for line, deed in SOUND:
            if deed[0] != "sew":
                self.refused(line.rpartition(" ")[0])
                for more in ("a", "0", "-", "/"):
                    self.refused(f"{line} {more}")

    def test_other_first_words(self):
        for word in (
            "", " ", "Sew", "SEW", "sews", "se", "undo", "redo", "names", "pegs", "form", "parted", "order", "word",
            "layers", "letter", "alike", "page", "letters", "done", "what", "twin", "0", "-", "\n", "sew\n",
        ):
            for rest in ("", " ", " a", " a b", " a b c", " a 01 0 0", " p - 0", " a b 0", " 2"):
                self.refused(word + rest)

    def test_its_argument_is_called_line(self):
        self.assertEqual(read_line(line="doff p"), ("doff", "p"))


class WrittenDeeds(unittest.TestCase):
    def test_each_deed_as_a_house_writes_it(self):
        for letters in BREADTHS:
            house, last = House(letters), letters - 1
            leave, swapped = "".join(map(str, range(letters))), "".join(map(str, swap(letters)))
            rows = [(swap(letters), (0,) * last + (1,)), (tuple(range(letters)), (1,) * letters)]
            house.sew("a", rows)
            house.sew("b", [(swap(letters), ("a",) * last + (0,))])
            house.join("c", "a", "b")
            house.turn("d", "c")
            house.look("e", "a", ())
            house.look("f", "a", (0, last, 0))
            house.power("g", "a", -2)
            house.power("h", "a", 0)
            house.drop("c")
            house.hang("p", (), (0, 0))
            house.hang("q", (last, 0, last), (0, last, 0, last))
            house.wear("p", "a")
            house.wear("p", "b")
            house.doff("p")
            house.unhang("q")
            self.assertEqual(house.deeds(), [
                f"sew a {swapped}{' 0' * last} 1 / {leave}{' 1' * letters}",
                f"sew b {swapped}{' a' * last} 0",
                "join c a b",
                "turn d c",
                "look e a -",
                f"look f a 0{last}0",
                "power g a -2",
                "power h a 0",
                "drop c",
                "hang p - 00",
                f"hang q {last}0{last} 0{last}0{last}",
                "wear p a",
                "wear p b",
                "doff p",
                "unhang q",
            ])
            read = [read_line(line) for line in house.deeds()]
            self.assertEqual(read[0], ("sew", "a", rows))
            self.assertEqual(read[10], ("hang", "q", (last, 0, last), (0, last, 0, last)))
            other = House(letters)
            for deed in read:
                getattr(other, deed[0])(*deed[1:])
            self.assertEqual(other.deeds(), house.deeds())
            self.assertEqual([other.guise(name) for name in other.names()], [house.guise(name) for name in house.names()])

    def test_rows_as_they_were_handed_in_and_not_the_form(self):
        for letters in BREADTHS:
            house = House(letters)
            rows = mixed_machine(letters, 60, 1, swaps=1)
            house.sew("a", rows)
            self.assertEqual(house.guise("a"), still(letters))
            self.assertEqual(house.deeds(), ["sew a " + rows_written(rows)])
            self.assertEqual(read_line(house.deeds()[0]), ("sew", "a", rows))
