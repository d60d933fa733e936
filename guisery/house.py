"""A house: guises and pegs by name, and the deeds that make them."""

from guisery.crews import order
from guisery.errors import BadBreadth, BadName, NoGuise, NoPeg, NothingLeft, NothingWorn, Taken, TooLong
from guisery.floors import floor
from guisery.joining import back, behind, joined, times
from guisery.lines import is_name, line_written
from guisery.parting import parted
from guisery.sewing import check_sewing, names_gone_to, sewn
from guisery.wearing import worn_endless
from guisery.words import alike_for, check_endless, letter_at, plain_word

LEAST_BREADTH = 2
MOST_BREADTH = 5
MOST_WORN = 1000

GUISE = "guise"
PEG = "peg"


class House:
    """Guises and pegs over so many letters.

    Each deed gives, changes or takes away just one thing, a guise or a peg. What is kept there is never changed
    itself, so a deed is taken back by what stood there ahead of it. A guise is kept as its form, a peg as a pair:
    its words, the one that was hung first and the one that hangs now last, and the names worn in between.
    """

    def __init__(self, letters):
        if not LEAST_BREADTH <= letters <= MOST_BREADTH:
            raise BadBreadth("there are from 2 to 5 letters")
        self.many_letters = letters
        self.things = {}
        self.done = []
        self.taken_back = []

    def sew(self, name, rows):
        """A guise by a machine whose goings may be names of guises."""
        self.check_new(GUISE, name)
        check_sewing(self.many_letters, rows)
        guises = {called: self.guise(called) for called in names_gone_to(rows)}
        self.keep(GUISE, sewn(rows, guises), ("sew", name, rows))

    def join(self, name, one, other):
        """A guise: the one and then the other."""
        self.check_new(GUISE, name)
        self.keep(GUISE, joined(self.guise(one), self.guise(other)), ("join", name, one, other))

    def turn(self, name, one):
        """A guise: the one turned back."""
        self.check_new(GUISE, name)
        self.keep(GUISE, back(self.guise(one)), ("turn", name, one))

    def look(self, name, one, word):
        """A guise: the one behind a word."""
        self.check_new(GUISE, name)
        self.keep(GUISE, behind(self.guise(one), word), ("look", name, one, word))

    def power(self, name, one, many):
        """A guise: the one so many times."""
        self.check_new(GUISE, name)
        self.keep(GUISE, times(self.guise(one), many), ("power", name, one, many))

    def drop(self, name):
        """A guise goes."""
        self.guise(name)
        self.keep(GUISE, None, ("drop", name))

    def hang(self, peg, beginning, ring):
        """A peg with an endless word."""
        self.check_new(PEG, peg)
        check_endless(self.many_letters, (beginning, ring))
        self.keep(PEG, ((plain_word(beginning, ring),), ()), ("hang", peg, beginning, ring))

    def wear(self, peg, name):
        """The word on a peg wears a guise."""
        words, layers = self.held_by(peg)
        made = worn_endless(self.guise(name), words[-1])
        if len(made[0]) + len(made[1]) > MOST_WORN:
            raise TooLong("the word would have more than 1000 letters")
        self.keep(PEG, (words + (made,), layers + (name,)), ("wear", peg, name))

    def doff(self, peg):
        """The guise worn last is taken off."""
        words, layers = self.held_by(peg)
        if len(layers) == 0:
            raise NothingWorn("the word wears no guise")
        self.keep(PEG, (words[:-1], layers[:-1]), ("doff", peg))

    def unhang(self, peg):
        """A peg goes."""
        self.held_by(peg)
        self.keep(PEG, None, ("unhang", peg))

    def undo(self):
        """Take back the last deed that is not taken back."""
        if len(self.done) == 0:
            raise NothingLeft("there is nothing to take back")
        change = self.done.pop()
        self.taken_back.append(change)
        line, key, before, after = change
        self.put(key, before)

    def redo(self):
        """Do again what was taken back last."""
        if len(self.taken_back) == 0:
            raise NothingLeft("there is nothing to do again")
        change = self.taken_back.pop()
        self.done.append(change)
        line, key, before, after = change
        self.put(key, after)

    def twin(self):
        """Another house that stands as this one does."""
        other = House(self.many_letters)
        other.things = dict(self.things)
        other.done = list(self.done)
        other.taken_back = list(self.taken_back)
        return other

    def letters(self):
        """The breadth."""
        return self.many_letters

    def names(self):
        """The names of the guises, rising."""
        return self.called(GUISE)

    def pegs(self):
        """The names of the pegs, rising."""
        return self.called(PEG)

    def guise(self, name):
        """The form of a guise."""
        if (GUISE, name) not in self.things:
            raise NoGuise("there is no guise by that name")
        return self.things[(GUISE, name)]

    def word(self, peg):
        """The word that hangs on a peg."""
        words, layers = self.held_by(peg)
        return words[-1]

    def first_word(self, peg):
        """The word as it was hung on a peg."""
        words, layers = self.held_by(peg)
        return words[0]

    def layers(self, peg):
        """The names by which guises are worn on a peg, the first one first."""
        words, layers = self.held_by(peg)
        return list(layers)

    def parted(self, one, other):
        """The word at which two guises part, or None."""
        return parted(self.guise(one), self.guise(other))

    def order(self, name, most):
        """The order of a guise up to a most, or None."""
        return order(self.guise(name), most)

    def floor(self, name, many):
        """What a guise makes of a floor."""
        return floor(self.guise(name), many)

    def letter(self, peg, place):
        """The letter at a place of the word on a peg."""
        return letter_at(self.word(peg), place)

    def alike(self, peg, other):
        """How many letters the words on two pegs have alike ahead of the first unlike one, or None."""
        return alike_for(self.word(peg), self.word(other))

    def deeds(self):
        """The lines of all deeds that stand."""
        return [line for line, key, before, after in self.done]

    def check_new(self, kind, name):
        """Refuse a new name that is none, or that another thing of its kind has."""
        if not is_name(name):
            raise BadName("a name has 1 to 12 small letters")
        if (kind, name) in self.things:
            raise Taken("the name is taken")

    def held_by(self, peg):
        """The words and the names worn of a peg."""
        if (PEG, peg) not in self.things:
            raise NoPeg("there is no peg by that name")
        return self.things[(PEG, peg)]

    def called(self, kind):
        """The rising names of all things of a kind."""
        return sorted([name for held, name in self.things if held == kind])

    def keep(self, kind, thing, deed):
        """Do a deed, of which the first name is the thing's: keep the thing, or None where it goes."""
        key = (kind, deed[1])
        self.done.append((line_written(deed), key, self.things.get(key), thing))
        self.taken_back.clear()
        self.put(key, thing)

    def put(self, key, thing):
        """Let a thing stand by its key, or nothing where it is None."""
        if thing is None:
            del self.things[key]
        else:
            self.things[key] = thing
