"""The chains of least and cut in finitely many steps, as tables."""

from truthgrades.chains import SHAPES, check_kind, connected
from truthgrades.errors import NoCount, NoKind
from truthgrades.fractions import fraction
from truthgrades.kinds import is_whole
from truthgrades.tables import MOST_GRADES, power

LEAST_STEPS = 2


def chain(kind, many):
    """The chain of least or cut in many steps; NoKind at another kind, then NoCount at another number."""
    check_kind(kind)
    if kind == "times":
        raise NoKind("the chain of times has no such steps")
    if not is_whole(many) or not LEAST_STEPS <= many <= MOST_GRADES:
        raise NoCount("no number of steps of a chain")
    connectives = [(name, places, chain_cells(kind, many, name, places)) for name, places in SHAPES]
    return (many, (many - 1,), tuple(connectives))


def chain_cells(kind, many, name, places):
    cells = []
    for place in range(power(many, places)):
        grades = [fraction(one, many - 1) for one in grades_at(place, many, places)]
        reached = connected(kind, name, grades)
        # Least and cut lead from steps to steps, so nothing is left over here.
        cells.append(reached[0] * (many - 1) // reached[1])
    return tuple(cells)


def grades_at(place, many, places):
    """A list of the grades, one for each of a connective's places, whose cell stands at a place."""
    if places == 0:
        return []
    return grades_at(place // many, many, places - 1) + [place % many]
