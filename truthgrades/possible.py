"""The grades that a saying may have by a half table, where each letter keeps to a set."""

from truthgrades.gradings import cells_by_name, check_names
from truthgrades.kinds import is_letter
from truthgrades.sayings import written_parts
from truthgrades.tables import next_places


def possible(H, S, sets):
    """The possible grades of a saying, a rising tuple; NoName at the first such name from the left."""
    cells = cells_by_name(H)
    check_names(cells, written_parts(S))
    return tuple(possible_within(cells, H[0], S, sets))


def possible_within(cells, many, S, sets):
    """A rising list of the possible grades of a saying whose names are all there."""
    if is_letter(S):
        return list(sets[S]) if S in sets else list(range(many))
    places = [0]
    for part in S[1:]:
        places = next_places(places, many, possible_within(cells, many, part, sets))
    given = cells[(S[0], len(S) - 1)]
    reached = [given[place] for place in places]
    return list(range(many)) if None in reached else sorted(set(reached))
