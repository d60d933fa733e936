"""A desk that answers lines about a house."""

from guisery.doing import do_deed
from guisery.errors import (
    BadCount, BadLine, BadMachine, BadName, BadWord, NoGuise, NoPeg, NothingLeft, NothingWorn, Taken, TooLong, TooMany,
)
from guisery.lines import head_of_line, read_line, read_parts, rows_written, word_written
from guisery.notes import page

DONE = "done"
NO_NAMES = "-"

ASKED = {
    "undo": (),
    "redo": (),
    "names": (),
    "pegs": (),
    "form": ("name",),
    "parted": ("name", "name"),
    "order": ("name", "number"),
    "word": ("name",),
    "layers": ("name",),
    "letter": ("name", "number"),
    "alike": ("name", "name"),
    "page": (),
}


def names_written(names):
    """Names with one blank between."""
    return " ".join(names) if len(names) > 0 else NO_NAMES


def answer_undo(house, asked):
    """Take back a deed."""
    house.undo()
    return DONE


def answer_redo(house, asked):
    """Do a deed again."""
    house.redo()
    return DONE


def answer_names(house, asked):
    """The names of the guises."""
    return names_written(house.names())


def answer_pegs(house, asked):
    """The names of the pegs."""
    return names_written(house.pegs())


def answer_form(house, asked):
    """The rows of a guise."""
    return rows_written(house.guise(asked[1]))


def answer_parted(house, asked):
    """The word at which two guises part."""
    word = house.parted(asked[1], asked[2])
    return "same" if word is None else word_written(word)


def answer_order(house, asked):
    """The order of a guise."""
    many = house.order(asked[1], asked[2])
    return "none" if many is None else str(many)


def answer_word(house, asked):
    """The word on a peg."""
    beginning, ring = house.word(asked[1])
    return f"{word_written(beginning)} {word_written(ring)}"


def answer_layers(house, asked):
    """The names worn on a peg."""
    return names_written(house.layers(asked[1]))


def answer_letter(house, asked):
    """A letter of the word on a peg."""
    return str(house.letter(asked[1], asked[2]))


def answer_alike(house, asked):
    """How many letters the words on two pegs have alike."""
    many = house.alike(asked[1], asked[2])
    return "always" if many is None else str(many)


def answer_page(house, asked):
    """The page of the house."""
    return page(house)


ANSWERS = {
    "undo": answer_undo,
    "redo": answer_redo,
    "names": answer_names,
    "pegs": answer_pegs,
    "form": answer_form,
    "parted": answer_parted,
    "order": answer_order,
    "word": answer_word,
    "layers": answer_layers,
    "letter": answer_letter,
    "alike": answer_alike,
    "page": answer_page,
}


def answered(house, line):
    """The answer to a line; a refusal where there is one, BadLine for a line that is none of a desk's."""
    head = head_of_line(line)
    if head not in ANSWERS:
        do_deed(house, read_line(line))
        return DONE
    answer = ANSWERS[head]
    return answer(house, read_parts(line, ASKED[head]))


class Desk:
    """A desk with a house."""

    def __init__(self, house):
        self.house = house

    def ask(self, line):
        """The answer to any line."""
        try:
            return answered(self.house, line)
        except BadLine:
            return "what"
        except BadName:
            return "BadName"
        except Taken:
            return "Taken"
        except BadMachine:
            return "BadMachine"
        except BadWord:
            return "BadWord"
        except BadCount:
            return "BadCount"
        except NoGuise:
            return "NoGuise"
        except NoPeg:
            return "NoPeg"
        except TooMany:
            return "TooMany"
        except TooLong:
            return "TooLong"
        except NothingWorn:
            return "NothingWorn"
        except NothingLeft:
            return "NothingLeft"
