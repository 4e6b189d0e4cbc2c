import itertools
import unittest
from fractions import Fraction

from tests.helper import OTHER_KINDS, GradeCase, Mixer, joined, nested, plain_letters, shown
from truthgrades.chains import grade_by
from truthgrades.errors import NoKind, NoLetter, NoName
from truthgrades.sayings import words_of

KINDS = ("least", "cut", "times")
SHAPES = (("and", 2), ("or", 2), ("then", 2), ("with", 2), ("not", 1), ("false", 0), ("true", 0))
# Names and numbers of places alone, for mixing sayings.
MIXED = (2, (1,), tuple((name, places, ()) for name, places in SHAPES))
TALL = 10 ** 100 - 1
P, Q = (2, 3), (1, 4)
# The grades of each connective at p = 2/3, q = 1/4, and at p and p, q and p, by hand; by least, cut, times.
BY_HAND = (
    ("p", P, P, P),
    (("false",), (0, 1), (0, 1), (0, 1)),
    (("true",), (1, 1), (1, 1), (1, 1)),
    (("and", "p", "q"), Q, Q, Q),
    (("and", "q", "p"), Q, Q, Q),
    (("or", "p", "q"), P, P, P),
    (("or", "q", "p"), P, P, P),
    (("then", "p", "q"), Q, (7, 12), (3, 8)),
    (("then", "q", "p"), (1, 1), (1, 1), (1, 1)),
    (("then", "p", "p"), (1, 1), (1, 1), (1, 1)),
    (("with", "p", "q"), Q, (0, 1), (1, 6)),
    (("with", "q", "p"), Q, (0, 1), (1, 6)),
    (("with", "p", "p"), P, (1, 3), (4, 9)),
    (("not", "p"), (0, 1), (1, 3), (0, 1)),
    (("not", "q"), (0, 1), (3, 4), (0, 1)),
    (("not", ("false",)), (1, 1), (1, 1), (1, 1)),
    (("not", ("true",)), (0, 1), (0, 1), (0, 1)),
    (("then", "p", ("false",)), (0, 1), (1, 3), (0, 1)),
    (("then", ("false",), ("false",)), (1, 1), (1, 1), (1, 1)),
    (("then", ("true",), "q"), Q, Q, Q),
    (("with", ("true",), "q"), Q, Q, Q),
    (("with", ("false",), "q"), (0, 1), (0, 1), (0, 1)),
    (("then", ("with", "p", "p"), ("and", "p", "q")), Q, (11, 12), (9, 16)),
    (("not", ("not", "p")), (1, 1), P, (1, 1)),
)


def plain_connective(kind, name, grades):
    """A connective's grade at grades of Python's own, by the words of the document."""
    if name in ("and", "or"):
        return min(grades) if name == "and" else max(grades)
    if name in ("false", "true"):
        return Fraction(name == "true")
    a, b = grades if len(grades) == 2 else (grades[0], Fraction(0))
    if name == "with":
        return {"least": min(a, b), "cut": max(a + b - 1, Fraction(0)), "times": a * b}[kind]
    if a <= b:
        return Fraction(1)
    return {"least": b, "cut": 1 - a + b, "times": b / a}[kind]


def plain_by(kind, saying, grading):
    if isinstance(saying, str):
        return Fraction(*grading[saying])
    return plain_connective(kind, saying[0], [plain_by(kind, part, grading) for part in saying[1:]])


def pair(number):
    return (number.numerator, number.denominator)


def steps_to(most):
    """All fractions from 0 to 1 with bottoms up to most."""
    return sorted({Fraction(top, bottom) for bottom in range(1, most + 1) for top in range(bottom + 1)})


class GradeBy(GradeCase):
    def test_by_hand(self):
        for row in BY_HAND:
            for kind, due in zip(KINDS, row[1:]):
                with self.subTest(kind=kind, saying=row[0]):
                    self.tells(due, grade_by, kind, row[0], {"p": P, "q": Q})

    def test_each_connective(self):
        for kind in KINDS:
            for name, places in SHAPES:
                saying = (name, "p", "q")[:1 + places]
                for a, b in itertools.product(steps_to(6), repeat=2):
                    grading = {"p": pair(a), "q": pair(b)}
                    due = plain_connective(kind, name, [a, b][:places])
                    self.assertTrue(0 <= due <= 1)
                    self.tells(pair(due), grade_by, kind, saying, grading)

    def test_letters(self):
        for kind in KINDS:
            for given in ((0, 1), (1, 1), (1, 2), (TALL - 1, TALL), (1, TALL)):
                self.tells(given, grade_by, kind, "z", {"z": given, "a": (0, 1)})

    def test_no_letters(self):
        for kind in KINDS:
            self.tells((1, 1), grade_by, kind, ("then", ("false",), ("not", ("true",))), {})
            self.tells((0, 1), grade_by, kind, ("with", ("true",), ("false",)), {"p": (1, 2)})

    def test_many_figures(self):
        low, high = (1, TALL), (TALL - 1, TALL)
        grading = {"p": low, "q": high}
        self.tells((TALL - 1, TALL * TALL), grade_by, "times", ("with", "p", "q"), grading)
        self.tells((1, TALL - 1), grade_by, "times", ("then", "q", "p"), grading)
        self.tells((0, 1), grade_by, "cut", ("with", "p", "q"), grading)
        self.tells((2, TALL), grade_by, "cut", ("then", "q", "p"), grading)
        self.tells((TALL - 2, TALL), grade_by, "cut", ("with", "q", "q"), grading)
        self.tells(low, grade_by, "least", ("then", "q", "p"), grading)
        self.tells((1, 1), grade_by, "times", ("then", "p", "q"), grading)

    def test_twenty_tuples(self):
        # not turns about 1/4 and 3/4 by cut; by least and times it leads to 0, then 1, and so on.
        for tuples, by_cut, by_others in ((19, (3, 4), (0, 1)), (20, (1, 4), (1, 1))):
            self.tells(by_cut, grade_by, "cut", nested(tuples), {"p": (1, 4)})
            self.tells(by_others, grade_by, "least", nested(tuples), {"p": (1, 4)})
            self.tells(by_others, grade_by, "times", nested(tuples), {"p": (1, 4)})
        saying = "p"
        for step in range(19):
            saying = ("with", saying, "p")
        # Twenty letters.
        self.tells((1, 2 ** 20), grade_by, "times", saying, {"p": (1, 2)})
        self.tells((9, 29), grade_by, "cut", saying, {"p": (28, 29)})
        self.tells((28, 29), grade_by, "least", saying, {"p": (28, 29)})

    def test_forty_words(self):
        saying = joined("pq" * 10)
        self.assertEqual(words_of(("not", saying)), 40)
        for kind in KINDS:
            self.tells((1, 9), grade_by, kind, saying, {"p": (1, 2), "q": (1, 9)})
        self.tells((8, 9), grade_by, "cut", ("not", saying), {"p": (1, 2), "q": (1, 9)})
        # A product of nineteen, with many figures.
        saying = ("then", ("true",), "p")
        for step in range(18):
            saying = ("with", "p", saying)
        self.assertEqual(words_of(saying), 39)
        due = Fraction(TALL - 1, TALL) ** 19
        self.assertTrue(grade_by("times", saying, {"p": (TALL - 1, TALL)}) == pair(due))

    def test_deeper_than_told(self):
        self.tells((1, 4), grade_by, "cut", nested(60), {"p": (1, 4)})

    def test_as_plainly(self):
        mixer = Mixer(51)
        grades = steps_to(7)
        for step in range(600):
            kind = KINDS[step % 3]
            saying = mixer.saying(MIXED, "pqrs", 4)
            grading = {letter: pair(mixer.pick(grades)) for letter in "pqrs"}
            self.tells(pair(plain_by(kind, saying, grading)), grade_by, kind, saying, grading)
            fewer = {letter: grading[letter] for letter in plain_letters(saying)}
            self.tells(grade_by(kind, saying, grading), grade_by, kind, saying, fewer)

    def test_told_fractions_are_new(self):
        for kind in KINDS:
            grading = {"p": (1, 2), "q": (1, 3)}
            for saying in ("p", ("and", "p", "q"), ("or", "p", "q"), ("with", "p", ("true",)), ("then", "p", "q")):
                told = grade_by(kind, saying, grading)
                self.is_new(told, grading)
                self.assertIsNot(grade_by(kind, saying, grading), told)
            for saying in (("true",), ("false",), ("not", "p"), ("then", "p", "p")):
                self.assertIsNot(grade_by(kind, saying, grading), grade_by(kind, saying, grading))


class Refusals(GradeCase):
    def test_other_kinds(self):
        for thing in OTHER_KINDS + ("", "Least", "least ", "cuts", "time", "p", "lea", ["least"], ("cut",), b"times", KINDS):
            with self.subTest(thing=shown(thing)):
                told = self.refuses(NoKind, grade_by, thing, "p", {"p": (1, 2)})
                self.same(vars(told), {})

    def test_names_that_are_not_there(self):
        for kind in KINDS:
            for saying, name in (
                (("nor", "p", "q"), "nor"), (("not",), "not"), (("not", "p", "q"), "not"), (("and", "p"), "and"),
                (("or",), "or"), (("then", "p"), "then"), (("with",), "with"), (("false", "p"), "false"),
                (("true", "p", "q"), "true"), (("and", "p", ("not", ("so", "p"))), "so"), (("least", "p", "q"), "least"),
            ):
                told = self.refuses(NoName, grade_by, kind, saying, {"p": (1, 2), "q": (1, 3)})
                self.same(vars(told), {"name": name})

    def test_the_first_name_from_the_left_as_written(self):
        for saying, name in (
            (("aa", ("bb",), ("cc",)), "aa"), (("and", ("bb",), ("aa",)), "bb"), (("and", ("not", ("zz",)), ("aa",)), "zz"),
            (("then", ("and", "p", ("zz", ("aa",))), ("aa",)), "zz"), (("and", ("true",), ("not", ("aa", ("bb",)))), "aa"),
        ):
            self.same(vars(self.refuses(NoName, grade_by, "cut", saying, {})), {"name": name})

    def test_letters_that_the_grading_lacks(self):
        for kind in KINDS:
            for saying, grading, letter in (
                ("p", {}, "p"), ("p", {"q": (1, 2)}, "p"), (("not", ("not", "p")), {}, "p"), (("and", "q", "p"), {}, "q"),
                (("and", "q", "p"), {"q": (1, 2)}, "p"), (("with", ("not", "z"), "a"), {}, "z"),
                # The grade would be known without the letter, but it lacks.
                (("then", ("false",), "q"), {"p": (1, 2)}, "q"), (("or", ("true",), "q"), {}, "q"),
            ):
                told = self.refuses(NoLetter, grade_by, kind, saying, grading)
                self.same(vars(told), {"letter": letter})

    def test_kinds_go_first_then_names(self):
        self.refuses(NoKind, grade_by, "most", ("aa", "p"), {})
        self.refuses(NoKind, grade_by, None, "p", {})
        self.same(vars(self.refuses(NoName, grade_by, "least", ("and", "p", ("aa",)), {})), {"name": "aa"})
        self.same(vars(self.refuses(NoName, grade_by, "times", ("and", ("not", "p"), ("not", "q", "r")), {})), {"name": "not"})

    def test_a_refusal_changes_nothing(self):
        self.refuses(NoLetter, grade_by, "cut", ("and", "p", "q"), {"p": (1, 2)})
        self.tells((1, 3), grade_by, "cut", ("and", "p", "q"), {"p": (1, 2), "q": (1, 3)})


if __name__ == "__main__":
    unittest.main()
