"""Tables and half tables: tuples (many, wished, connectives).

The grades are 0 to many - 1; a connective is a tuple (name, places, cells); a half table
may have None in cells, a table may not.
"""

from truthgrades.kinds import is_name, is_whole

MOST_GRADES = 9
MOST_PLACES = 2
MOST_CONNECTIVES = 8


def is_half(thing):
    """Whether a thing of any kind is a half table."""
    if not isinstance(thing, tuple) or len(thing) != 3:
        return False
    many = thing[0]
    if not is_whole(many) or not 1 <= many <= MOST_GRADES:
        return False
    return are_rising_grades(thing[1], many) and are_connectives(thing[2], many)


def is_table(thing):
    """Whether a thing of any kind is a table: a half table without Nones."""
    return is_half(thing) and count_nones(thing) == 0


def fillings(H):
    """How many tables have a grade for each None of a half table."""
    return power(H[0], count_nones(H))


def count_nones(H):
    return sum([cells.count(None) for name, places, cells in H[2]])


def power(base, exponent):
    product = 1
    for step in range(exponent):
        product = product * base
    return product


def is_grade(thing, many):
    """Whether a thing of any kind is one of many grades."""
    return is_whole(thing) and 0 <= thing < many


def are_rising_grades(thing, many):
    """Whether a thing of any kind is a rising tuple of grades, perhaps of none."""
    if not isinstance(thing, tuple) or not all([is_grade(part, many) for part in thing]):
        return False
    return all([one < other for one, other in zip(thing, thing[1:])])


def are_connectives(thing, many):
    if not isinstance(thing, tuple) or len(thing) > MOST_CONNECTIVES:
        return False
    if not all([is_connective(part, many) for part in thing]):
        return False
    return len(set([part[0] for part in thing])) == len(thing)


def is_connective(thing, many):
    if not isinstance(thing, tuple) or len(thing) != 3:
        return False
    places = thing[1]
    if not is_name(thing[0]) or not is_whole(places) or not 0 <= places <= MOST_PLACES:
        return False
    return are_cells(thing[2], many, power(many, places))


def are_cells(thing, many, length):
    if not isinstance(thing, tuple) or len(thing) != length:
        return False
    return all([cell is None or is_grade(cell, many) for cell in thing])


def cell_places(many, grades, places):
    """The places of a connective's cells, in order, at some of many grades in each of its places."""
    reached = [0]
    for step in range(places):
        reached = next_places(reached, many, grades)
    return reached


def next_places(places, many, grades):
    """The places of cells to which some places lead on by each of some grades of one part more."""
    reached = []
    for place in places:
        reached.extend([place * many + one for one in grades])
    return reached


def remade(T, olds, news):
    """A table whose grades stand for grades of another one, its connectives in their order.

    olds is a list of the grade of T for which each new grade stands, news gives for each grade
    to which connectives lead from these the new one.
    """
    connectives = []
    for name, places, cells in T[2]:
        reached = [cells[place] for place in cell_places(T[0], olds, places)]
        connectives.append((name, places, tuple([news[old] for old in reached])))
    wished = [one for one, old in enumerate(olds) if old in T[1]]
    return (len(olds), tuple(wished), tuple(connectives))
