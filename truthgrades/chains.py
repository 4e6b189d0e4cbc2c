"""Chains of all fractions from 0 to 1, by three kinds, and the grades that sayings have by them."""

from truthgrades.errors import NoKind
from truthgrades.fractions import below, minus, over, plus, times
from truthgrades.gradings import check_letters, check_names
from truthgrades.kinds import is_letter
from truthgrades.sayings import written_parts

KINDS = ("least", "cut", "times")
# The names of the connectives, and how many places they have.
SHAPES = (("and", 2), ("or", 2), ("then", 2), ("with", 2), ("not", 1), ("false", 0), ("true", 0))
NOUGHT = (0, 1)
ONE = (1, 1)


def grade_by(kind, S, grading):
    """The grade of a saying by a kind at a grading; NoKind, then NoName, then NoLetter."""
    check_kind(kind)
    parts = written_parts(S)
    check_names(SHAPES, parts)
    check_letters(parts, grading)
    told = graded(kind, S, grading)
    # What a letter has is the asker's, what false and true have is this file's: a new one is told.
    return (told[0], told[1])


def check_kind(kind):
    """NoKind where a thing of any kind is no kind of chains."""
    if not isinstance(kind, str) or kind not in KINDS:
        raise NoKind("no kind of chains")


def graded(kind, S, grading):
    """The grade of a saying whose names and letters are all there."""
    if is_letter(S):
        return grading[S]
    return connected(kind, S[0], [graded(kind, part, grading) for part in S[1:]])


def connected(kind, name, grades):
    """The grade of a connective at grades, one for each of its places."""
    if name == "false":
        return NOUGHT
    if name == "true":
        return ONE
    if name == "not":
        return connected_then(kind, grades[0], NOUGHT)
    if name == "then":
        return connected_then(kind, grades[0], grades[1])
    if name == "with":
        return connected_with(kind, grades[0], grades[1])
    if name == "or":
        return greater(grades[0], grades[1])
    return lesser(grades[0], grades[1])


def connected_then(kind, a, b):
    if not below(b, a):
        return ONE
    if kind == "least":
        return b
    if kind == "cut":
        return plus(minus(ONE, a), b)
    return over(b, a)


def connected_with(kind, a, b):
    if kind == "least":
        return lesser(a, b)
    if kind == "cut":
        return greater(minus(plus(a, b), ONE), NOUGHT)
    return times(a, b)


def lesser(a, b):
    return b if below(b, a) else a


def greater(a, b):
    return b if below(a, b) else a
