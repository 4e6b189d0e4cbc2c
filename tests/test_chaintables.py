import unittest
from fractions import Fraction

from tests.helper import OTHER_KINDS, GradeCase, Mixer, built, plain_grade, shown
from tests.test_chains import KINDS, MIXED, SHAPES, pair, plain_connective
from tests.test_cuts import some_grades
from truthgrades.alike import alike
from truthgrades.chains import grade_by
from truthgrades.chaintables import chain
from truthgrades.cuts import part_of
from truthgrades.errors import NoCount, NoKind, NoTable
from truthgrades.shrinking import shrunk
from truthgrades.tables import is_table

STEPS = range(2, 10)


def plain_chain(kind, many):
    def cell(name, grades):
        reached = plain_connective(kind, name, [Fraction(grade, many - 1) for grade in grades]) * (many - 1)
        assert reached.denominator == 1
        return reached.numerator

    return built(many, lambda one: one == many - 1, SHAPES, cell)


class Chain(GradeCase):
    def test_by_hand(self):
        two = (2, (1,), (
            ("and", 2, (0, 0, 0, 1)), ("or", 2, (0, 1, 1, 1)), ("then", 2, (1, 1, 0, 1)), ("with", 2, (0, 0, 0, 1)),
            ("not", 1, (1, 0)), ("false", 0, (0,)), ("true", 0, (1,)),
        ))
        # In two steps both kinds are just true and false.
        self.tells(two, chain, "least", 2)
        self.tells(two, chain, "cut", 2)
        conj, disj = ("and", 2, (0, 0, 0, 0, 1, 1, 0, 1, 2)), ("or", 2, (0, 1, 2, 1, 1, 2, 2, 2, 2))
        self.tells((3, (2,), (
            conj, disj, ("then", 2, (2, 2, 2, 0, 2, 2, 0, 1, 2)), ("with", 2, (0, 0, 0, 0, 1, 1, 0, 1, 2)),
            ("not", 1, (2, 0, 0)), ("false", 0, (0,)), ("true", 0, (2,)),
        )), chain, "least", 3)
        self.tells((3, (2,), (
            conj, disj, ("then", 2, (2, 2, 2, 1, 2, 2, 0, 1, 2)), ("with", 2, (0, 0, 0, 0, 0, 1, 0, 1, 2)),
            ("not", 1, (2, 1, 0)), ("false", 0, (0,)), ("true", 0, (2,)),
        )), chain, "cut", 3)

    def test_all_chains(self):
        for kind in ("least", "cut"):
            for many in STEPS:
                told = self.ask(chain, kind, many)
                self.same(told, plain_chain(kind, many))
                self.assertTrue(is_table(told))

    def test_each_told_table_is_new(self):
        for kind in ("least", "cut"):
            self.is_new(chain(kind, 4), chain(kind, 4))

    def test_as_by_all_fractions(self):
        # A saying's grade in the chain is its grade by the kind, in steps.
        mixer = Mixer(61)
        for step in range(300):
            kind = ("least", "cut")[step % 2]
            many = mixer.pick(STEPS)
            saying = mixer.saying(MIXED, "pqr", 4)
            grading = {letter: mixer.number(many) for letter in "pqr"}
            due = pair(Fraction(plain_grade(chain(kind, many), saying, grading), many - 1))
            self.tells(due, grade_by, kind, saying, {
                letter: pair(Fraction(one, many - 1)) for letter, one in grading.items()})

    def test_chains_within_chains(self):
        # By least any grades with the first and last ones are a chain again; by cut those in even steps.
        for grades in some_grades(9):
            if grades[0] == 0 and grades[-1] == 8:
                self.tells(chain("least", len(grades)), part_of, chain("least", 9), grades)
            else:
                self.refuses(NoTable, part_of, chain("least", 9), grades)
        kept = []
        for grades in some_grades(9):
            try:
                self.same(part_of(chain("cut", 9), grades), chain("cut", len(grades)))
                kept.append(grades)
            except NoTable:
                pass
        self.assertEqual(kept, [(0, 8), (0, 4, 8), (0, 2, 4, 6, 8), tuple(range(9))])

    def test_what_is_alike(self):
        # not and then part all grades of cut; by least, too, each grade is parted from those below by then.
        for many in STEPS:
            for kind in ("least", "cut"):
                self.assertEqual(alike(chain(kind, many)), tuple((one,) for one in range(many)))
                self.tells(chain(kind, many), shrunk, chain(kind, many))


class Refusals(GradeCase):
    def test_other_kinds(self):
        for thing in OTHER_KINDS + ("times", "", "Least", "cut ", "p", ["least"], ("cut",), b"cut", KINDS):
            with self.subTest(thing=shown(thing)):
                self.same(vars(self.refuses(NoKind, chain, thing, 3)), {})

    def test_other_numbers(self):
        others = [thing for thing in OTHER_KINDS if thing.__class__ is not int]
        for thing in others + [0, 1, 10, 11, -1, -2, 10 ** 5000, -10 ** 5000, 2.0, "3", (3,), [3], "three"]:
            with self.subTest(thing=shown(thing)):
                for kind in ("least", "cut"):
                    self.same(vars(self.refuses(NoCount, chain, kind, thing)), {})

    def test_kinds_go_first(self):
        for many in (0, 1, 10, None, True, "3"):
            self.refuses(NoKind, chain, "times", many)
            self.refuses(NoKind, chain, "most", many)
            self.refuses(NoKind, chain, None, many)

    def test_a_refusal_changes_nothing(self):
        self.refuses(NoCount, chain, "least", 1)
        self.refuses(NoKind, chain, "times", 2)
        self.same(chain("least", 4), plain_chain("least", 4))


if __name__ == "__main__":
    unittest.main()
