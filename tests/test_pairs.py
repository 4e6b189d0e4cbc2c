import unittest

from tests.helper import GradeCase, Mixer, built, plain_cell, plain_grade, plain_gradings, shapes_of
from tests.test_following import letters_of_question, plainly_follows
from tests.test_tables import NAMES, whole_tables
from truthgrades.alike import alike
from truthgrades.cuts import part_of
from truthgrades.errors import NoTable
from truthgrades.following import follows
from truthgrades.pairs import paired
from truthgrades.shrinking import shrunk
from truthgrades.tables import is_table

SHAPES = (("no", 0), ("not", 1), ("and", 2), ("then", 2))
# How many grades two tables may have that are paired.
NUMBERS = [(one, other) for one in range(1, 10) for other in range(1, 10) if one * other <= 9]
TWO = (2, (1,), (("and", 2, (0, 0, 0, 1)), ("not", 1, (1, 0))))
THREE = (3, (2,), (("and", 2, (0, 0, 0, 0, 1, 1, 0, 1, 2)), ("not", 1, (2, 0, 0))))


def plainly_paired(one, other):
    grades = [(x, y) for x in range(one[0]) for y in range(other[0])]

    def cell(name, pairs):
        x = plain_cell(one, name, [grades[pair][0] for pair in pairs])
        y = plain_cell(other, name, [grades[pair][1] for pair in pairs])
        return grades.index((x, y))

    def is_wished(pair):
        return grades[pair][0] in one[1] and grades[pair][1] in other[1]

    return built(len(grades), is_wished, shapes_of(one), cell)


def can_be_wished(table, premises):
    """Whether some grading makes all premises wished."""
    letters = letters_of_question(premises, "p")
    return any(
        all(plain_grade(table, premise, grading) in table[1] for premise in premises)
        for grading in plain_gradings(table[0], letters)
    )


class Paired(GradeCase):
    def question(self, one, other):
        told = self.ask(paired, one, other)
        self.same(told, plainly_paired(one, other))
        self.assertTrue(is_table(told))
        self.is_new(told, one, other)
        return told

    def test_no_connective(self):
        self.tells((6, (5,), ()), paired, (2, (1,), ()), (3, (2,), ()))
        self.tells((6, (3, 4), ()), paired, (2, (1,), ()), (3, (0, 1), ()))
        self.tells((6, (1, 5), ()), paired, (3, (0, 2), ()), (2, (1,), ()))
        self.tells((6, (), ()), paired, (3, (), ()), (2, (0, 1), ()))
        self.tells((6, (0, 1, 2, 3, 4, 5), ()), paired, (3, (0, 1, 2), ()), (2, (0, 1), ()))

    def test_by_hand(self):
        # Grades (0, 0), (0, 1), (1, 0), (1, 1); not turns both, and keeps place by place.
        self.tells((4, (3,), (
            ("and", 2, (0, 0, 0, 0, 0, 1, 0, 1, 0, 0, 2, 2, 0, 1, 2, 3)), ("not", 1, (3, 2, 1, 0)),
        )), paired, TWO, TWO)
        # Of two and three grades: x * 3 + y.
        self.tells(
            (6, (5,), (("not", 1, (5, 3, 3, 2, 0, 0)),)), paired, (2, (1,), TWO[2][1:]), (3, (2,), THREE[2][1:])
        )
        # The other way round: y * 2 + x.
        self.tells(
            (6, (5,), (("not", 1, (5, 4, 1, 0, 1, 0)),)), paired, (3, (2,), THREE[2][1:]), (2, (1,), TWO[2][1:])
        )
        self.tells((6, (), (("mid", 0, (4,)),)), paired, (2, (), (("mid", 0, (1,)),)), (3, (2,), (("mid", 0, (1,)),)))

    def test_one_grade(self):
        one = (1, (0,), (("and", 2, (0,)), ("not", 1, (0,))))
        self.tells(THREE, paired, one, THREE)
        self.tells(THREE, paired, THREE, one)
        # Where the one grade isn't wished nothing is.
        self.tells((3, (), THREE[2]), paired, (1, (), one[2]), THREE)
        self.tells(one, paired, one, one)

    def test_nine_pairs_and_more(self):
        for one in range(1, 10):
            for other in range(1, 10):
                left, right = (one, (), ()), (other, tuple(range(other)), ())
                if one * other <= 9:
                    self.question(left, right)
                else:
                    self.refuses(NoTable, paired, left, right)
        self.assertEqual(self.question(THREE, THREE)[0], 9)
        self.refuses(NoTable, paired, (2, (1,), ()), (5, (4,), ()))
        self.refuses(NoTable, paired, (9, (1,), ()), (2, (1,), ()))

    def test_eight_connectives(self):
        many = [tuple((name, 2, tuple((x * y + 1) % size for x in range(size) for y in range(size))) for name in NAMES[:8])
                for size in (2, 3, 4)]
        self.question((2, (1,), many[0]), (3, (0, 2), many[1]))
        self.question((2, (1,), many[0]), (4, (0, 2), many[2]))
        self.question((3, (1,), many[1]), (3, (), many[1]))

    def test_other_connectives_are_refused(self):
        conj, neg = TWO[2]
        for left, right in (
            ((conj, neg), (neg, conj)), ((conj, neg), (conj,)), ((conj,), (conj, neg)), ((), (neg,)), ((neg,), ()),
            ((neg,), (("nay", 1, (1, 0)),)), ((neg,), (("not", 0, (1,)),)), ((neg,), (("not", 2, (0, 0, 0, 1)),)),
            ((conj,), (("or", 2, (0, 0, 0, 1)),)), ((conj, neg), (conj, ("nay", 1, (1, 0)))),
        ):
            with self.subTest(left=left, right=right):
                self.refuses(NoTable, paired, (2, (1,), left), (2, (1,), right))

    def test_a_refusal_changes_nothing(self):
        self.refuses(NoTable, paired, TWO, (2, (1,), TWO[2][::-1]))
        self.refuses(NoTable, paired, TWO, (5, (1,), ()))
        self.question(TWO, TWO)

    def test_as_plainly(self):
        mixer = Mixer(31)
        for step in range(200):
            one, other = mixer.pick(NUMBERS)
            shapes = mixer.some(SHAPES)
            self.question(mixer.table(one, shapes), mixer.table(other, shapes))
        whole = list(whole_tables())
        for one in whole:
            for other in whole:
                if shapes_of(one) == shapes_of(other) and one[0] * other[0] <= 9:
                    self.question(one, other)

    def test_what_follows(self):
        mixer = Mixer(32)
        seen = set()
        for step in range(250):
            one, other = mixer.pick([pair for pair in NUMBERS if pair[0] * pair[1] > 1])
            left, right = mixer.table(one), mixer.table(other)
            pair = paired(left, right)
            premises = [mixer.saying(pair, "pq", 2) for number in range(mixer.number(3))]
            saying = mixer.saying(pair, "pq", 2)
            in_both = plainly_follows(left, premises, saying) and plainly_follows(right, premises, saying)
            never = not can_be_wished(left, premises) or not can_be_wished(right, premises)
            self.assertEqual(plainly_follows(pair, premises, saying), in_both or never, (left, right, premises, saying))
            self.assertEqual(follows(pair, premises, saying)[0], "follows" if in_both or never else "barred")
            seen.add((in_both, never))
        self.assertEqual(len(seen), 4)

    def test_grades_go_side_by_side(self):
        mixer = Mixer(33)
        for step in range(60):
            one, other = mixer.pick(NUMBERS)
            left, right = mixer.table(one), mixer.table(other)
            saying = mixer.saying(left, "pqr", 4)
            here = {letter: mixer.number(one) for letter in "pqr"}
            there = {letter: mixer.number(other) for letter in "pqr"}
            both = {letter: here[letter] * other + there[letter] for letter in "pqr"}
            due = plain_grade(left, saying, here) * other + plain_grade(right, saying, there)
            self.assertEqual(plain_grade(paired(left, right), saying, both), due)

    def test_the_middle_of_a_pair_is_the_table(self):
        # The pairs of a grade with itself are kept by each connective, and go as the grades do.
        mixer = Mixer(34)
        for step in range(30):
            many = 1 + step % 3
            table = mixer.table(many)
            self.tells(table, part_of, paired(table, table), tuple(one * many + one for one in range(many)))

    def test_a_pair_with_a_table_that_parts_nothing_shrinks_back(self):
        all_wished = (3, (0, 1, 2), tuple((name, places, (0,) * 3 ** places) for name, places in shapes_of(THREE)))
        for pair in (paired(THREE, all_wished), paired(all_wished, THREE)):
            self.assertEqual(len(alike(pair)), 3)
            self.tells(THREE, shrunk, pair)


if __name__ == "__main__":
    unittest.main()
