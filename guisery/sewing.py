"""Machines whose goings may be names of guises."""

from guisery.machines import check_machine, least_form

MOST_SEWN_ROWS = 60


def check_sewing(letters, rows):
    """Refuse rows that are no machine, whatever names stand in the place of goings."""
    # Row 0 is always there, so it stands for any name.
    numbered = [
        (rearranging, tuple([0 if isinstance(going, str) else going for going in goings]))
        for rearranging, goings in rows
    ]
    check_machine(letters, numbered, MOST_SEWN_ROWS)


def names_gone_to(rows):
    """The names that stand in the place of goings."""
    return [going for rearranging, goings in rows for going in goings if isinstance(going, str)]


def sewn(rows, guises):
    """The guise of a good machine; guises holds those that it names."""
    # No guise has the empty name, so it stands for the rows themselves.
    return least_form(("", 0), lambda place: row_at(rows, guises, place))


def row_at(rows, guises, place):
    """The row at a place, a name and a number of a row there; its goings are such places, too."""
    name, at = place
    rearranging, goings = guises[name][at] if name else rows[at]
    return (rearranging, tuple([place_gone_to(name, going) for going in goings]))


def place_gone_to(name, going):
    """The place at which a going goes on: at a guise's first row, or at a row of the same rows."""
    return (going, 0) if isinstance(going, str) else (name, going)
