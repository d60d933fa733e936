import unittest

from guisery.desk import Desk
from guisery.house import House
from guisery.lines import rows_written
from guisery.notes import page, read_page

from helper import BREADTHS, FAR, changing, counter_machine, mixed_machine, ring, ring_machine, stand, stands, swap


def figures(numbers):
    return "".join(map(str, numbers))


def begun(letters):
    """A desk with a house that has guises a, b, more and pegs p, q, and a deed to do again."""
    house = House(letters)
    house.sew("a", counter_machine(letters))
    house.sew("b", ring_machine(letters, 2))
    house.sew("more", list(changing(letters, ring(letters, 7), ring(letters, 9))))
    house.hang("p", (1,), (0,))
    house.hang("q", (), (0, 1))
    house.wear("p", "b")
    house.wear("p", "b")
    house.hang("gone", (), (0,))
    house.undo()
    return Desk(house)


class Asking(unittest.TestCase):
    def answers(self, desk, pairs):
        for line, answer in pairs:
            told = desk.ask(line)
            self.assertIs(type(told), str)
            self.assertEqual(told, answer, line)

    def answers_and_changes_nothing(self, desk, pairs):
        ahead = stands(desk.house)
        self.answers(desk, pairs)
        self.assertEqual(stands(desk.house), ahead)


class Deeds(Asking):
    def test_each_deed_is_done(self):
        for letters in BREADTHS:
            house, other, last = House(letters), House(letters), letters - 1
            desk = Desk(house)
            rows = [(swap(letters), (0,) * last + (1,)), (tuple(range(letters)), (1,) * letters)]
            for line, deed, *handed in (
                ("sew a " + rows_written(rows), "sew", "a", rows),
                (f"sew b {figures(swap(letters))}{' a' * last} 0", "sew", "b", [(swap(letters), ("a",) * last + (0,))]),
                ("join c a b", "join", "c", "a", "b"), ("turn d c", "turn", "d", "c"),
                ("look e c 01", "look", "e", "c", (0, 1)),
                ("look f c -", "look", "f", "c", ()),
                ("power g a -3", "power", "g", "a", -3),
                ("hang p - 00", "hang", "p", (), (0, 0)),
                ("hang q 10 01", "hang", "q", (1, 0), (0, 1)),
                ("wear p c", "wear", "p", "c"),
                ("wear p a", "wear", "p", "a"),
                ("doff p", "doff", "p"),
                ("drop c", "drop", "c"),
                ("unhang q", "unhang", "q"),
            ):
                self.assertEqual(desk.ask(line), "done")
                getattr(other, deed)(*handed)
                self.assertEqual(stands(house), stands(other))
                self.assertEqual(house.deeds()[-1], line)

    def test_undo_and_redo(self):
        for letters in BREADTHS:
            desk = begun(letters)
            many = len(desk.house.deeds())
            last = stand(desk.house)
            self.answers(desk, [("redo", "done"), ("redo", "NothingLeft"), ("undo", "done")])
            self.assertEqual(stand(desk.house), last)
            self.answers(desk, [("undo", "done")] * many)
            self.assertEqual(stand(desk.house), (letters, [], {}, {}))
            self.answers_and_changes_nothing(desk, [("undo", "NothingLeft")] * 2)
            self.answers(desk, [("redo", "done")] * many)
            self.assertEqual(stand(desk.house), last)
            self.answers(desk, [("undo", "done"), ("hang z - 0", "done"), ("redo", "NothingLeft")])

    def test_refusals_by_the_name_of_their_class(self):
        for letters in BREADTHS:
            leave = figures(range(letters))
            desk = begun(letters)
            self.answers_and_changes_nothing(desk, [
                (f"sew a {leave}{' 0' * letters}", "Taken"),
                ("sew z 0", "BadMachine"),
                (f"sew z {leave}{' 1' * letters}", "BadMachine"),
                (f"sew z {leave}{' none' * letters}", "NoGuise"),
                ("join a none none", "Taken"),
                ("join z a none", "NoGuise"),
                ("turn z none", "NoGuise"),
                ("turn b none", "Taken"),
                (f"look z a {letters}", "BadWord"),
                ("look z none 9", "NoGuise"),
                ("power z a 65", "BadCount"),
                ("power z a -" + "9" * 60, "BadCount"),
                ("power z more 2", "TooMany"),
                ("power z none 65", "NoGuise"),
                ("drop none", "NoGuise"),
                ("drop p", "NoGuise"),
                ("hang p - 0", "Taken"),
                (f"hang z - {letters}", "BadWord"),
                ("hang z 9 0", "BadWord"),
                ("wear none none", "NoPeg"),
                ("wear p none", "NoGuise"),
                ("doff q", "NothingWorn"),
                ("doff none", "NoPeg"),
                ("unhang a", "NoPeg"),
                ("form none", "NoGuise"),
                ("parted none a", "NoGuise"),
                ("parted a none", "NoGuise"),
                ("order none 0", "NoGuise"),
                ("order a 0", "BadCount"),
                ("order a 65", "BadCount"),
                ("order a -1", "BadCount"),
                ("order a " + "9" * 60, "BadCount"),
                ("order more 64", "TooMany"),
                ("word a", "NoPeg"),
                ("layers none", "NoPeg"),
                ("letter none -1", "NoPeg"),
                ("letter p -1", "BadCount"),
                ("alike none p", "NoPeg"),
                ("alike p none", "NoPeg"),
            ])
            self.answers(desk, [("redo", "done"), ("redo", "NothingLeft")])

    def test_too_long(self):
        for letters in BREADTHS:
            desk = begun(letters)
            desk.house.hang("long", (0,) * 1000 + (letters - 1,), (0,))
            self.answers_and_changes_nothing(desk, [("wear long a", "TooLong")])


class Looks(Asking):
    def test_an_empty_house(self):
        for letters in BREADTHS:
            desk = Desk(House(letters))
            self.answers_and_changes_nothing(desk, [("names", "-"), ("pegs", "-"), ("page", f"letters {letters}")])

    def test_names_and_pegs_and_layers(self):
        for letters in BREADTHS:
            desk = begun(letters)
            self.answers_and_changes_nothing(desk, [
                ("names", "a b more"), ("pegs", "p q"), ("layers p", "b b"), ("layers q", "-"),
            ])
            self.answers(desk, [("drop b", "done"), ("layers p", "b b"), ("names", "a more"), ("doff p", "done"), ("layers p", "b")])
            self.answers(desk, [("unhang q", "done"), ("pegs", "p"), ("unhang p", "done"), ("pegs", "-")])

    def test_forms(self):
        for letters in BREADTHS:
            desk, leave, turned = begun(letters), figures(range(letters)), figures(tuple(range(1, letters)) + (0,))
            self.answers_and_changes_nothing(desk, [
                ("form a", f"{turned}{' 1' * (letters - 1)} 0 / {leave}{' 1' * letters}"),
                ("form b", f"{figures(swap(letters))}{' 1' * letters} / {leave}{' 0' * letters}"),
                ("form more", rows_written(desk.house.guise("more"))),
            ])
            desk.house.sew("c", mixed_machine(letters, 60, 1, swaps=1))
            self.assertEqual(desk.ask("form c"), leave + " 0" * letters)
            self.assertEqual(desk.ask("sew d " + desk.ask("form more")), "done")
            self.assertEqual(desk.ask("parted d more"), "same")

    def test_parted(self):
        for letters in BREADTHS:
            desk, leave = begun(letters), figures(range(letters))
            desk.ask(f"sew s {leave}{' 0' * letters}")
            desk.ask(f"sew t {leave}{' 0' * (letters - 1)} b")
            desk.ask(f"sew u {leave}{' s' * (letters - 1)} t")
            self.answers_and_changes_nothing(desk, [
                ("parted a a", "same"), ("parted a s", "0"), ("parted s t", f"{letters - 1}0"),
                ("parted t s", f"{letters - 1}0"),
                ("parted u s", f"{letters - 1}{letters - 1}0"), ("parted b b", "same"),
                ("parted b more", figures(desk.house.parted("b", "more"))),
            ])

    def test_orders(self):
        for letters in BREADTHS:
            desk = begun(letters)
            self.answers_and_changes_nothing(desk, [
                ("order a 64", "none"), ("order a 1", "none"), ("order b 1", "none"), ("order b 2", "2"),
                ("order b 64", "2"), ("order more 1", "none"),
            ])

    def test_words_and_letters(self):
        for letters in BREADTHS:
            desk = begun(letters)
            self.answers_and_changes_nothing(desk, [
                ("word p", "1 0"), ("word q", "- 01"), ("letter p 0", "1"), ("letter p 1", "0"), ("letter q 0", "0"),
                ("letter q 1", "1"),
                (f"letter q {FAR}", "0"), ("letter q " + "9" * 60, "1"), ("letter p 1" + "0" * 59, "0"),
            ])
            desk.ask("wear q b")
            self.answers(desk, [("word q", "- 1"), ("doff q", "done"), ("word q", "- 01"), ("wear q a", "done"), ("word q", "1 10")])
            desk.ask("hang r 11 0101")
            self.answers(desk, [("word r", "1 10")])

    def test_alike(self):
        for letters in BREADTHS:
            desk = begun(letters)
            desk.house.hang("same", (0, 1, 0), (1, 0))
            desk.house.hang("late", (0, 1) * 30, (0,))
            self.answers_and_changes_nothing(desk, [
                ("alike p q", "0"), ("alike q same", "always"), ("alike same q", "always"), ("alike p p", "always"),
                ("alike q late", "61"),
            ])

    def test_pages(self):
        for letters in BREADTHS:
            desk = begun(letters)
            self.answers_and_changes_nothing(desk, [("page", page(desk.house))])
            self.assertEqual(stand(read_page(desk.ask("page"))), stand(desk.house))
            self.assertEqual(desk.ask("page").split("\n")[-2:], ["wear p b", "wear p b"])


class OtherLines(Asking):
    def test_what(self):
        for letters in BREADTHS:
            desk = begun(letters)
            every = [
                "undo", "redo", "names", "pegs", "form a", "parted a b", "order a 9", "word p", "layers p", "letter p 0",
                "alike p q", "page", "join z a b", "turn z a", "look z a -", "look z a 0", "power z a 2", "drop a",
                "hang z - 0", "wear p a", "doff p", "unhang p",
            ]
            bad = [
                "", " ", "\n", "what", "done", "help", "a", "-", "/", "letters", f"letters {letters}", "twin", "deeds",
                "floor a 2", "guise a",
            ]
            for line in every:
                bad += [" " + line, line + " ", line + " a", line + " 0", line.replace(" ", "  ", 1) + " "]
                bad += [line.upper(), "\n" + line, line + "\n"]
                bad += [line.rpartition(" ")[0]] if " " in line else []
            bad += [
                "form A", "form 0", "form abcdefghijklm", "form -", "parted a", "parted a B", "parted A b", "order a",
                "order a x", "order a -0",
                "order a 01", "order a +1", "order a " + "9" * 61, "order A 1", "word P", "word", "layers 1",
                "letter p", "letter p x",
                "letter p 00", "letter p -0", "letter p " + "1" * 61, "letter P 0", "alike p", "alike p 1", "alike p Q",
                "sew", "sew z", "sew Z 01 0 0",
                "sew z 01 -1 0", "power z a 01", "power z a", "hang z - -", "hang z 0 -", "hang z a 0", "look z a a",
                "drop 1", "undo 1", "turn z aB", "join z a", "wear p", "names\nnames", "undo\nundo",
            ]
            self.answers_and_changes_nothing(desk, [(line, "what") for line in bad])
            self.answers(desk, [("redo", "done")])

    def test_two_desks_of_one_house(self):
        for letters in BREADTHS:
            house = House(letters)
            one, other = Desk(house), Desk(house)
            self.assertIs(one.house, house)
            self.assertIs(other.house, house)
            self.answers(one, [("hang p - 01", "done"), ("pegs", "p")])
            self.answers(other, [("pegs", "p"), ("word p", "- 01"), ("hang p - 0", "Taken"), ("undo", "done")])
            self.answers(one, [("pegs", "-"), ("redo", "done")])
            house.unhang("p")
            self.answers(other, [("word p", "NoPeg"), ("undo", "done"), ("word p", "- 01")])
            third = Desk(house.twin())
            self.answers(third, [("unhang p", "done"), ("pegs", "-")])
            self.answers(one, [("pegs", "p")])

    def test_a_house_of_two_breadths_by_turns(self):
        desks = {letters: Desk(House(letters)) for letters in BREADTHS}
        for letters, desk in desks.items():
            self.answers(desk, [(f"sew a {figures(swap(letters))}{' 0' * letters}", "done"), (f"hang p - {letters - 1}", "done")])
        for letters, desk in desks.items():
            self.answers(desk, [(f"hang q - {letters}", "BadWord"), ("word p", f"- {letters - 1}"), ("wear p a", "done")])
            self.answers(desk, [("word p", "- 0" if letters == 2 else f"- {letters - 1}")])
            self.answers(desk, [("form a", figures(swap(letters)) + " 0" * letters)])

    def test_how_the_arguments_are_called(self):
        self.assertEqual(Desk(house=House(2)).ask(line="names"), "-")
