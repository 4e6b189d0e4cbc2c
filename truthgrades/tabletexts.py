"""The texts of tables, such as `grades 2; wished 1; not 1 1 0; true 0 1`."""

from truthgrades.errors import NoTable
from truthgrades.tables import is_table

FIGURES = "0123456789"


def show_table(T):
    """A table's text."""
    parts = [part_text("grades", (T[0],)), part_text("wished", T[1])]
    for name, places, cells in T[2]:
        parts.append(part_text(name, (places,) + cells))
    return "; ".join(parts)


def part_text(word, numbers):
    return " ".join([word] + [str(number) for number in numbers])


def read_table(text):
    """The table whose text this is; NoTable where it is none's, or no text."""
    if not isinstance(text, str):
        raise NoTable("what is no text is no table's text")
    table = table_of([part.split(" ") for part in text.split("; ")])
    if not is_table(table):
        raise NoTable("this text is no table's")
    return table


def table_of(parts):
    """What the parts, lists of words, tell: a table, or else something that is none."""
    if len(parts) < 2 or len(parts[0]) != 2:
        return None
    # A connective may be called grades or wished, too, so the place of a part counts.
    if parts[0][0] != "grades" or parts[1][0] != "wished":
        return None
    connectives = tuple([connective_of(words) for words in parts[2:]])
    return (number_of(parts[0][1]), tuple(numbers_of(parts[1][1:])), connectives)


def connective_of(words):
    if len(words) < 2:
        return None
    return (words[0], number_of(words[1]), tuple(numbers_of(words[2:])))


def numbers_of(words):
    return [number_of(word) for word in words]


def number_of(word):
    """The number that a word writes; -1, which no table holds, where it is no single figure.

    No number of a table has two figures; and int would take blanks, signs and noughts
    ahead, and fail at very many figures.
    """
    return FIGURES.find(word) if len(word) == 1 else -1
