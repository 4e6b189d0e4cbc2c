"""The grades that a saying may have by a half table, where each letter keeps to a set."""

from truthgrades.gradings import cells_by_name, check_names
from truthgrades.kinds import is_letter
from truthgrades.sayings import written_parts


def possible(H, S, sets):
    """The possible grades of a saying, a rising tuple; NoName at the first such name from the left."""
    check_names(H, written_parts(S))
    return tuple(possible_within(cells_by_name(H), H[0], S, sets))


def possible_within(cells, many, S, sets):
    """A rising list of the possible grades of a saying whose names are all there."""
    if is_letter(S):
        return list(sets[S]) if S in sets else list(range(many))
    places = [0]
    for part in S[1:]:
        places = next_places(places, many, possible_within(cells, many, part, sets))
    given = cells[(S[0], len(S) - 1)]
    reached = [given[place] for place in places]
    return list(range(many)) if None in reached else sorted(set(reached))


def next_places(places, many, grades):
    """The places of cells to which some places lead on by each of some grades of one part more."""
    reached = []
    for place in places:
        reached.extend([place * many + one for one in grades])
    return reached
