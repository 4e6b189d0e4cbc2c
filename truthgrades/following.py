"""What follows in a table, with a tree that shows it, or a grading that bars it."""

from truthgrades.gradings import cells_by_name, check_names, with_letter
from truthgrades.possible import possible_within
from truthgrades.sayings import letters_of_all, written_parts


def follows(T, premises, S):
    """("follows", tree), or ("barred", grading); NoName at the first such name, the premises first."""
    sayings = list(premises) + [S]
    for saying in sayings:
        check_names(cells_by_name(T), written_parts(saying))
    return answer_by(T, premises, S, letters_of_all(sayings), {})


def answer_by(T, premises, S, letters, sets):
    """The answer of all gradings that keep to sets: each of the first letters has one grade alone."""
    if is_closed(T, premises, S, sets):
        return ("follows", ("closed",))
    if len(sets) == len(letters):
        # One possible grade is each saying's very grade, so what isn't closed here is barred.
        return ("barred", dict([(letter, sets[letter][0]) for letter in letters]))
    letter = letters[len(sets)]
    trees = []
    for one in range(T[0]):
        answer = answer_by(T, premises, S, letters, with_letter(sets, letter, (one,)))
        if answer[0] == "barred":
            return answer
        trees.append(answer[1])
    return ("follows", ("split", letter, tuple(trees)))


def is_closed(T, premises, S, sets):
    """Whether some premise has no wished possible grade, or the saying none that isn't wished."""
    cells = cells_by_name(T)
    for premise in premises:
        if not any([one in T[1] for one in possible_within(cells, T[0], premise, sets)]):
            return True
    return all([one in T[1] for one in possible_within(cells, T[0], S, sets)])
