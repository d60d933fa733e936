"""Deeds written as lines, and lines read again."""

from guisery.errors import BadLine

SMALL_LETTERS = "abcdefghijklmnopqrstuvwxyz"
FIGURES = "0123456789"
MOST_LETTERS_OF_NAME = 12
MOST_FIGURES = 60
EMPTY = "-"

DEEDS = {
    "sew": ("name", "rows"),
    "join": ("name", "name", "name"),
    "turn": ("name", "name"),
    "look": ("name", "name", "word"),
    "power": ("name", "name", "number"),
    "drop": ("name",),
    "hang": ("name", "word", "ring"),
    "wear": ("name", "name"),
    "doff": ("name",),
    "unhang": ("name",),
}


def is_name(text):
    """Whether a text is a name: 1 to 12 small letters."""
    return 1 <= len(text) <= MOST_LETTERS_OF_NAME and all([sign in SMALL_LETTERS for sign in text])


def are_figures(text):
    """Whether a text is of figures alone, one at least."""
    return len(text) > 0 and all([sign in FIGURES for sign in text])


def plainly_written(part):
    """A name or a number."""
    return str(part)


def word_written(word):
    """A word by its letters' figures."""
    return "".join([str(letter) for letter in word]) if len(word) > 0 else EMPTY


def row_written(row):
    """A row: its rearranging's figures and then its goings."""
    rearranging, goings = row
    return " ".join([word_written(rearranging)] + [plainly_written(going) for going in goings])


def rows_written(rows):
    """Rows as a machine is sewn of them."""
    return " / ".join([row_written(row) for row in rows])


WRITERS = {
    "name": plainly_written,
    "number": plainly_written,
    "word": word_written,
    "ring": word_written,
    "rows": rows_written,
}


def line_written(deed):
    """The line of a deed: a tuple of its name and of what it is handed."""
    name = deed[0]
    parts = [name]
    for kind, part in zip(DEEDS[name], deed[1:]):
        writer = WRITERS[kind]
        parts.append(writer(part))
    return " ".join(parts)


def read_name(text):
    """A name, as it stands."""
    if not is_name(text):
        raise BadLine("a name has 1 to 12 small letters")
    return text


def read_number(text):
    """A number, maybe below nought."""
    figures = text.removeprefix("-")
    if not are_figures(figures) or len(figures) > MOST_FIGURES:
        raise BadLine("a number has 1 to 60 figures")
    if figures.startswith("0") and text != "0":
        raise BadLine("a number has no nought ahead, and nought has no sign")
    return int(text)


def read_figures(text):
    """A word that isn't empty."""
    if not are_figures(text):
        raise BadLine("there are other signs than figures, or none")
    return tuple([int(sign) for sign in text])


def read_word(text):
    """A word, maybe empty."""
    return () if text == EMPTY else read_figures(text)


def read_going(text):
    """A going: a name, or a number from 0 on."""
    if is_name(text):
        return text
    going = read_number(text)
    if going < 0:
        raise BadLine("a going is below nought")
    return going


def read_row(text):
    """A row: figures, and then any count of goings."""
    rearranging, *goings = text.split(" ")
    return (read_figures(rearranging), tuple([read_going(going) for going in goings]))


def read_rows(text):
    """The list of the rows."""
    return [read_row(row) for row in text.split(" / ")]


READERS = {
    "name": read_name,
    "number": read_number,
    "word": read_word,
    "ring": read_figures,
    "rows": read_rows,
}


def head_of_line(line):
    """The text ahead of the first blank."""
    return line.split(" ")[0]


def read_parts(line, kinds):
    """A tuple of a line's first text and of its parts, read as what they are to be."""
    # No more is split than there are parts, since rows have blanks of their own.
    head, *parts = line.split(" ", max(1, len(kinds)))
    if len(parts) != len(kinds):
        raise BadLine("there are too few parts, or too many")
    read = [head]
    for kind, part in zip(kinds, parts):
        reader = READERS[kind]
        read.append(reader(part))
    return tuple(read)


def read_line(line):
    """A written deed: a tuple of its name and of what it is handed."""
    name = head_of_line(line)
    if name not in DEEDS:
        raise BadLine("there is no such deed")
    return read_parts(line, DEEDS[name])
