"""Machines, and guises told as forms: the least machine that does the same."""

from guisery.errors import BadMachine, TooMany
from guisery.letters import rearranges, same_letters

MOST_ROWS = 400
MOST_FORM_ROWS = 60


def form(letters, rows):
    """The guise of a machine, begun at row 0."""
    check_machine(letters, rows, MOST_ROWS)
    return least_form(0, lambda at: rows[at])


def still(letters):
    """The guise that leaves every word as it is."""
    return ((same_letters(letters), (0,) * letters),)


def breadth(guise):
    """How many letters a guise is over."""
    rearranging, goings = guise[0]
    return len(rearranging)


def section_at(guise, row):
    """The guise that a form is, begun at one of its rows."""
    return least_form(row, lambda at: guise[at])


def read_from(guise, row, word):
    """A pair: what a form, begun at a row, makes of a good word, and the row at which it goes on."""
    made = []
    at = row
    for letter in word:
        rearranging, goings = guise[at]
        made.append(rearranging[letter])
        at = goings[letter]
    return (tuple(made), at)


def check_machine(letters, rows, most):
    """Refuse rows that are no machine of so many rows at most, those that are never come to among them."""
    if not 1 <= len(rows) <= most:
        raise BadMachine(f"a machine has from 1 to {most} rows here")
    for rearranging, goings in rows:
        if not rearranges(letters, rearranging):
            raise BadMachine("a row has no rearranging of the letters")
        if len(goings) != letters:
            raise BadMachine("a row has another count of goings than of letters")
        if any([not 0 <= going < len(rows) for going in goings]):
            raise BadMachine("a going is no row")


def least_form(first, row_at):
    """The form of a good machine of any count of rows, begun at the first one: row_at tells each row, and
    its goings are whatever rows are asked by (numbers, pairs of numbers)."""
    found = rows_come_to(first, row_at)
    kinds = kinds_of_rows(found)
    # Both numberings go by who comes first, so the first row of each kind stands where the form wants it.
    least = []
    for (rearranging, goings), kind in zip(found, kinds):
        if kind == len(least):
            least.append((rearranging, kinds_gone_to(kinds, goings)))
    return tuple(least)


def rows_come_to(first, row_at):
    """The rows that are come to from the first one, numbered as they are first come to."""
    order = [first]
    places = {first: 0}
    found = []
    while len(found) < len(order):
        rearranging, goings = row_at(order[len(found)])
        for going in goings:
            if going not in places:
                places[going] = len(order)
                order.append(going)
        found.append((rearranging, tuple([places[going] for going in goings])))
    return found


def kinds_of_rows(rows):
    """A number for each row, the same one just for rows that are alike; all rows are come to."""
    kinds = numbered([rearranging for rearranging, goings in rows])
    count = 0
    while count < max(kinds) + 1:
        count = max(kinds) + 1
        # Kinds are only ever split further, so too many now are too many in the end: this bounds the work.
        if count > MOST_FORM_ROWS:
            raise TooMany("the form would have more than 60 rows")
        kinds = numbered([
            (kind, kinds_gone_to(kinds, goings))
            for kind, (rearranging, goings) in zip(kinds, rows)
        ])
    return kinds


def kinds_gone_to(kinds, goings):
    """The kinds of the rows at which the goings go on."""
    return tuple([kinds[going] for going in goings])


def numbered(things):
    """A number for each thing, from 0 on as they first stand there, the same one for the same thing."""
    numbers = {}
    for thing in things:
        if thing not in numbers:
            numbers[thing] = len(numbers)
    return [numbers[thing] for thing in things]
