"""Gradings, dicts from letters to grades, and the grades that sayings have at them."""

from truthgrades.errors import NoLetter, NoName
from truthgrades.kinds import is_letter
from truthgrades.sayings import written_parts


def grade(T, S, grading):
    """The grade of a saying by a table at a grading; NoName, then NoLetter, at the first one from the left."""
    parts = written_parts(S)
    cells = cells_by_name(T)
    check_names(cells, parts)
    check_letters(parts, grading)
    return grade_within(cells, T[0], S, grading)


def grade_within(cells, many, S, grading):
    """The grade of a saying whose names and letters are all there."""
    if is_letter(S):
        return grading[S]
    place = 0
    for part in S[1:]:
        place = place * many + grade_within(cells, many, part, grading)
    return cells[(S[0], len(S) - 1)][place]


def gradings(many, letters):
    """A list of all gradings of a list of unlike letters."""
    told = [{}]
    for letter in letters:
        longer = []
        for grading in told:
            longer.extend([with_letter(grading, letter, one) for one in range(many)])
        told = longer
    return told


def with_letter(by_letter, letter, given):
    """A new dict like one from letters, with something given to one letter more."""
    longer = dict(by_letter)
    longer[letter] = given
    return longer


def cells_by_name(H):
    """The cells of a half table's connectives, by tuples of their names and numbers of places."""
    return dict([((name, places), cells) for name, places, cells in H[2]])


def check_names(shapes, parts):
    """NoName at the first part (or line) whose name and number of places are none of these shapes."""
    for part in parts:
        if not is_letter(part) and (part[0], len(part) - 1) not in shapes:
            raise NoName(part[0])


def check_letters(parts, known):
    """NoLetter at the first part (or line) that is a letter and isn't known."""
    for part in parts:
        if is_letter(part) and part not in known:
            raise NoLetter(part)


def column_from(cells, many, columns, length):
    """The column that a connective's cells give, place by place, of a column for each of its places."""
    places = [0 for row in range(length)]
    for column in columns:
        places = [place * many + one for place, one in zip(places, column)]
    return tuple([cells[place] for place in places])
