"""Two tables paired: a grade of each makes a grade of the pair."""

from truthgrades.errors import NoTable
from truthgrades.tables import MOST_GRADES, cell_places


def paired(one, other):
    """The table of both; NoTable where their connectives differ, or it would have more than nine grades."""
    if shapes_of(one) != shapes_of(other):
        raise NoTable("tables with other connectives make no pair")
    many = one[0] * other[0]
    if many > MOST_GRADES:
        raise NoTable("there are more pairs of grades than a table may have")
    firsts = [pair // other[0] for pair in range(many)]
    seconds = [pair % other[0] for pair in range(many)]
    wished = [pair for pair in range(many) if firsts[pair] in one[1] and seconds[pair] in other[1]]
    connectives = []
    for first, second in zip(one[2], other[2]):
        reached = cells_at(first, one[0], firsts)
        beside = cells_at(second, other[0], seconds)
        connectives.append((first[0], first[1], tuple([x * other[0] + y for x, y in zip(reached, beside)])))
    return (many, tuple(wished), tuple(connectives))


def shapes_of(T):
    return [(name, places) for name, places, cells in T[2]]


def cells_at(connective, many, grades):
    """A connective's cells, in order, at some of many grades in each of its places."""
    return [connective[2][place] for place in cell_places(many, grades, connective[1])]
