"""What can be said: the columns of grades that sayings of some letters have."""

from truthgrades.errors import TooMany
from truthgrades.gradings import cells_by_name, check_letters, check_names, column_from
from truthgrades.kinds import is_letter
from truthgrades.sayings import needed_lines

MOST_COLUMNS = 81


def sayable(T, columns, wish):
    """("said", lines), or ("unsaid", kept); TooMany where more than 81 columns can be said."""
    found = all_sayable(T, columns, len(wish))
    if wish not in found:
        return ("unsaid", tuple(sorted(found)))
    last = list(found).index(wish)
    return ("said", needed_alone(list(found.values())[:last + 1]))


def all_sayable(T, columns, length):
    """A dict from each column that can be said to a line for it, in the order in which they were found.

    A line names others by their places in this order.
    """
    cells = cells_by_name(T)
    found = {}
    for letter, column in columns:
        # A column that is told is a new one, not the one that was handed in.
        keep(found, tuple(list(column)), letter)
    for line in lines_without_parts(T):
        keep(found, line_column(T, cells, [], line, length), line)
    number = 0
    while number < len(found):
        ahead = list(found)
        for line in lines_with(T, number):
            keep(found, line_column(T, cells, ahead, line, length), line)
        number = number + 1
    return found


def keep(found, column, line):
    if column not in found:
        if len(found) == MOST_COLUMNS:
            raise TooMany("more columns can be said than are told")
        found[column] = line


def line_column(T, cells, ahead, line, length):
    """The column of a line that is no letter, by those of the lines ahead of it."""
    parts = [ahead[number] for number in line[1:]]
    return column_from(cells[(line[0], len(line) - 1)], T[0], parts, length)


def lines_without_parts(T):
    return [(name,) for name, places, cells in T[2] if places == 0]


def lines_with(T, number):
    """All lines that have a line of this number among their parts, and none behind it."""
    lines = []
    for name, places, cells in T[2]:
        if places == 1:
            lines.append((name, number))
        if places == 2:
            lines.extend([(name, number, other) for other in range(number + 1)])
            lines.extend([(name, other, number) for other in range(number)])
    return lines


def needed_alone(lines):
    """The last line and those on which it rests, in their order, numbered anew."""
    numbers = {}
    for number in sorted(needed_lines(lines)):
        numbers[number] = len(numbers)
    return tuple([renumbered(lines[number], numbers) for number in numbers])


def renumbered(line, numbers):
    if is_letter(line):
        return line
    return (line[0],) + tuple([numbers[number] for number in line[1:]])


def column_of(T, columns, lines):
    """The column that lines have; NoName, then NoLetter, as of the saying that they say."""
    given = dict(columns)
    written = [lines[number] for number in needed_lines(lines)]
    cells = cells_by_name(T)
    check_names(cells, written)
    check_letters(written, given)
    ahead = []
    for line in needed_alone(lines):
        if is_letter(line):
            ahead.append(tuple(list(given[line])))
        else:
            ahead.append(line_column(T, cells, ahead, line, len(columns[0][1])))
    return ahead[-1]
