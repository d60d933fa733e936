"""The page of a house, and pages read again."""

from guisery.doing import do_deed
from guisery.errors import BadPage, GuiseError
from guisery.house import LEAST_BREADTH, MOST_BREADTH, House
from guisery.lines import read_line


def first_row(letters):
    """The row ahead of the deeds."""
    return f"letters {letters}"


def page(house):
    """The page of a house: its breadth, and a line for each deed that stands."""
    return "\n".join([first_row(house.letters())] + house.deeds())


def read_page(text):
    """A house in which the deeds of a page were done."""
    first, *lines = text.split("\n")
    house = house_begun(first)
    for at, line in enumerate(lines, start=2):
        try:
            do_deed(house, read_line(line))
        except GuiseError:
            raise BadPage(at) from None
    return house


def house_begun(row):
    """The empty house that a page's first row tells."""
    for letters in range(LEAST_BREADTH, MOST_BREADTH + 1):
        if row == first_row(letters):
            return House(letters)
    raise BadPage(1)
