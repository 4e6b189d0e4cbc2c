"""A table cut down to some of its grades, and a table turned by an order of its grades."""

from truthgrades.errors import NoTable
from truthgrades.tables import cell_places, remade


def part_of(T, grades):
    """A table's part of some grades, a rising tuple; NoTable where a connective doesn't keep them."""
    if not all([keeps(connective, T[0], grades) for connective in T[2]]):
        raise NoTable("a connective leads from these grades to another one")
    return remade(T, grades, dict([(old, one) for one, old in enumerate(grades)]))


def keeps(connective, many, grades):
    """Whether a connective leads from these grades to these alone."""
    return all([connective[2][place] in grades for place in cell_places(many, grades, connective[1])])


def turned(T, order):
    """A table turned by an order, a tuple of all grades: grade g becomes order[g]."""
    return remade(T, [order.index(one) for one in range(T[0])], order)
