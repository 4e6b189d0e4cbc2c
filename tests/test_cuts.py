import itertools
import unittest

from tests.helper import GradeCase, Mixer, built, plain_cell, plain_grade, plain_gradings, shapes_of
from tests.test_following import THREE, letters_of_question, plainly_follows
from tests.test_tables import NAMES, whole_tables
from truthgrades.alike import alike
from truthgrades.cuts import part_of, turned
from truthgrades.errors import NoTable
from truthgrades.following import follows
from truthgrades.shrinking import shrunk
from truthgrades.tables import is_table


def some_grades(many):
    """All rising tuples of one or more of many grades."""
    for number in range(1, many + 1):
        yield from itertools.combinations(range(many), number)


def plainly_kept(table, grades):
    return all(
        plain_cell(table, name, at) in grades
        for name, places in shapes_of(table) for at in itertools.product(grades, repeat=places)
    )


def plain_part(table, grades):
    return built(
        len(grades), lambda one: grades[one] in table[1], shapes_of(table),
        lambda name, at: grades.index(plain_cell(table, name, [grades[one] for one in at])),
    )


def plainly_turned(table, order):
    """Written the other way round: from each old grade to its new one."""
    many = table[0]
    connectives = []
    for name, places in shapes_of(table):
        cells = [None] * many ** places
        for at in itertools.product(range(many), repeat=places):
            place = sum(order[grade] * many ** power for power, grade in enumerate(reversed(at)))
            cells[place] = order[plain_cell(table, name, at)]
        connectives.append((name, places, tuple(cells)))
    return (many, tuple(sorted(order[one] for one in table[1])), tuple(connectives))


def an_order(mixer, many):
    left, order = list(range(many)), []
    while left:
        order.append(left.pop(mixer.number(len(left))))
    return tuple(order)


def a_kept_table(mixer, many, grades, shapes=(("no", 0), ("not", 1), ("and", 2), ("then", 2))):
    """A table whose connectives lead from these grades to these alone."""
    return built(
        many, lambda one: mixer.number(2), shapes,
        lambda name, at: mixer.pick(grades if set(at) <= set(grades) else range(many)),
    )


class PartOf(GradeCase):
    def question(self, table, grades):
        """Asks, and sees to it that the answer is right; tells whether there is such a part."""
        if not plainly_kept(table, grades):
            self.refuses(NoTable, part_of, table, grades)
            return False
        told = self.ask(part_of, table, grades)
        self.same(told, plain_part(table, grades))
        self.assertTrue(is_table(told))
        self.is_new(told, table, grades)
        return True

    def test_by_hand(self):
        two = (2, (1,), (
            ("and", 2, (0, 0, 0, 1)), ("or", 2, (0, 1, 1, 1)), ("then", 2, (1, 1, 0, 1)), ("not", 1, (1, 0)), ("false", 0, (0,)),
        ))
        self.tells(two, part_of, THREE, (0, 2))
        self.tells(THREE, part_of, THREE, (0, 1, 2))
        # not leads from 0 to 2, from 1 and 2 to 0; false is 0.
        for grades in ((0,), (1,), (2,), (0, 1), (1, 2)):
            self.refuses(NoTable, part_of, THREE, grades)

    def test_no_connective(self):
        self.tells((1, (), ()), part_of, (9, (0, 8), ()), (4,))
        self.tells((1, (0,), ()), part_of, (9, (0, 8), ()), (8,))
        self.tells((3, (0, 2), ()), part_of, (9, (0, 8), ()), (0, 4, 8))
        self.tells((3, (1,), ()), part_of, (9, (0, 2, 5), ()), (1, 2, 8))
        self.tells((9, (0, 8), ()), part_of, (9, (0, 8), ()), tuple(range(9)))

    def test_connectives_of_no_places(self):
        table = (4, (3,), (("mid", 0, (2,)),))
        self.tells((1, (), (("mid", 0, (0,)),)), part_of, table, (2,))
        self.tells((2, (1,), (("mid", 0, (0,)),)), part_of, table, (2, 3))
        self.tells((3, (), (("mid", 0, (2,)),)), part_of, table, (0, 1, 2))
        for grades in ((0,), (1,), (3,), (0, 1), (0, 1, 3)):
            self.refuses(NoTable, part_of, table, grades)

    def test_one_place_of_two_counts_too(self):
        # minus leads from 1 and 0 to 2, and else keeps 0 and 1.
        minus = ("minus", 2, (0, 0, 2, 2, 0, 2, 2, 2, 2))
        self.refuses(NoTable, part_of, (3, (2,), (minus,)), (0, 1))
        other = ("minus", 2, (0, 2, 2, 0, 0, 2, 2, 2, 2))
        self.refuses(NoTable, part_of, (3, (2,), (other,)), (0, 1))
        kept = ("minus", 2, (0, 1, 2, 1, 0, 2, 2, 2, 2))
        self.tells((2, (), (("minus", 2, (0, 1, 1, 0)),)), part_of, (3, (2,), (kept,)), (0, 1))
        # The last connective may be the one that doesn't keep them.
        self.refuses(NoTable, part_of, (3, (2,), (kept, ("up", 1, (1, 2, 2)))), (0, 1))

    def test_all_grades(self):
        for table in whole_tables():
            grades = tuple(range(table[0]))
            self.assertTrue(self.question(table, grades))
            self.tells(table, part_of, table, grades)

    def test_one_grade(self):
        self.tells((1, (0,), (("and", 2, (0,)),)), part_of, (1, (0,), (("and", 2, (0,)),)), (0,))
        least = ("and", 2, tuple(min(x, y) for x in range(9) for y in range(9)))
        for grade in range(9):
            due = (1, (0,) if grade in (3, 8) else (), (("and", 2, (0,)),))
            self.tells(due, part_of, (9, (3, 8), (least,)), (grade,))

    def test_nine_grades_and_eight_connectives(self):
        plus = tuple((name, 2, tuple((x + y) % 9 for x in range(9) for y in range(9))) for name in NAMES[:8])
        three = tuple((name, 2, tuple((x + y) % 3 for x in range(3) for y in range(3))) for name in NAMES[:8])
        self.tells((3, (1,), three), part_of, (9, (1, 3, 4), plus), (0, 3, 6))
        self.refuses(NoTable, part_of, (9, (1, 3, 4), plus), (0, 3, 6, 8))
        self.refuses(NoTable, part_of, (9, (1, 3, 4), plus), (1, 4, 7))

    def test_as_plainly(self):
        mixer = Mixer(41)
        told = []
        for step in range(100):
            table = mixer.table(1 + step % 5, mixer.some((("no", 0), ("not", 1), ("and", 2))))
            told.extend(self.question(table, grades) for grades in some_grades(table[0]))
        for step in range(100):
            many = 2 + step % 8
            grades = mixer.some(range(many)) or (many - 1,)
            self.assertTrue(self.question(a_kept_table(mixer, many, grades), grades))
        self.assertGreater(told.count(True), 100)
        self.assertGreater(told.count(False), 100)

    def test_a_refusal_changes_nothing(self):
        self.refuses(NoTable, part_of, THREE, (0, 1))
        self.tells(THREE, part_of, THREE, (0, 1, 2))

    def test_what_follows_in_the_table_follows_in_it(self):
        mixer = Mixer(42)
        seen = []
        for step in range(250):
            many = 2 + step % 4
            grades = mixer.some(range(many)) or (0,)
            table = a_kept_table(mixer, many, grades)
            small = part_of(table, grades)
            premises = [mixer.saying(table, "pq", 2) for number in range(mixer.number(3))]
            saying = mixer.saying(table, "pq", 2)
            in_it = plainly_follows(small, premises, saying)
            self.assertEqual(follows(small, premises, saying)[0], "follows" if in_it else "barred")
            if plainly_follows(table, premises, saying):
                self.assertTrue(in_it, (table, grades, premises, saying))
                seen.append("in both")
            else:
                seen.append("in it alone" if in_it else "in none")
        for word in ("in both", "in it alone", "in none"):
            self.assertGreater(seen.count(word), 10)

    def test_grades_go_with_them(self):
        mixer = Mixer(43)
        for step in range(40):
            table = a_kept_table(mixer, 5, (1, 3, 4))
            small = part_of(table, (1, 3, 4))
            saying = mixer.saying(table, "pq", 3)
            for grading in plain_gradings(3, letters_of_question([], saying)):
                upper = {letter: (1, 3, 4)[grade] for letter, grade in grading.items()}
                self.assertEqual((1, 3, 4)[plain_grade(small, saying, grading)], plain_grade(table, saying, upper))


class Turned(GradeCase):
    def question(self, table, order):
        told = self.ask(turned, table, order)
        self.same(told, plainly_turned(table, order))
        self.assertTrue(is_table(told))
        self.is_new(told, table, order)
        return told

    def test_by_hand(self):
        # 0 becomes 1, 1 becomes 2, 2 becomes 0: where up led from 0 to 1 it leads from 1 to 2, and so on.
        table = (3, (2,), (("up", 1, (1, 2, 2)), ("mid", 0, (1,))))
        self.tells((3, (0,), (("up", 1, (0, 2, 0)), ("mid", 0, (2,)))), turned, table, (1, 2, 0))
        self.tells((3, (1,), (("up", 1, (1, 1, 0)), ("mid", 0, (0,)))), turned, table, (2, 0, 1))
        self.tells((3, (0,), (("up", 1, (0, 0, 1)), ("mid", 0, (1,)))), turned, table, (2, 1, 0))
        conj = (2, (1,), (("and", 2, (0, 0, 0, 1)), ("then", 2, (1, 1, 0, 1))))
        self.tells((2, (0,), (("and", 2, (0, 1, 1, 1)), ("then", 2, (0, 1, 0, 0)))), turned, conj, (1, 0))

    def test_no_connective(self):
        self.tells((4, (0, 1), ()), turned, (4, (1, 3), ()), (3, 0, 2, 1))
        self.tells((4, (), ()), turned, (4, (), ()), (3, 0, 2, 1))
        self.tells((1, (0,), ()), turned, (1, (0,), ()), (0,))

    def test_left_as_they_are(self):
        for table in whole_tables():
            self.tells(table, turned, table, tuple(range(table[0])))

    def test_nine_grades_and_eight_connectives(self):
        mixer = Mixer(44)
        table = mixer.table(9, tuple((name, 2) for name in NAMES[:8]))
        self.question(table, an_order(mixer, 9))
        self.question(table, tuple(reversed(range(9))))

    def test_all_orders(self):
        mixer = Mixer(45)
        for many in range(1, 5):
            table = mixer.table(many)
            for order in itertools.permutations(range(many)):
                told = self.question(table, order)
                back = tuple(order.index(one) for one in range(many))
                self.tells(table, turned, told, back)

    def test_as_plainly(self):
        mixer = Mixer(46)
        for step in range(100):
            table = mixer.table(1 + step % 9, mixer.some((("no", 0), ("not", 1), ("and", 2), ("then", 2))))
            self.question(table, an_order(mixer, table[0]))

    def test_the_same_follows(self):
        mixer = Mixer(47)
        told = []
        for step in range(150):
            table = mixer.table(1 + step % 5)
            other = turned(table, an_order(mixer, table[0]))
            premises = [mixer.saying(table, "pq", 2) for number in range(mixer.number(3))]
            saying = mixer.saying(table, "pq", 2)
            due = plainly_follows(table, premises, saying)
            self.assertEqual(plainly_follows(other, premises, saying), due, (table, other, premises, saying))
            self.assertEqual(follows(other, premises, saying)[0], "follows" if due else "barred")
            told.append(due)
        self.assertGreater(told.count(True), 20)
        self.assertGreater(told.count(False), 20)

    def test_alike_grades_stay_alike(self):
        mixer = Mixer(48)
        for step in range(60):
            table = mixer.table(1 + step % 9, (("not", 1), ("so", 1)))
            order = an_order(mixer, table[0])
            other = turned(table, order)
            due = sorted(tuple(sorted(order[grade] for grade in part)) for part in alike(table))
            self.assertEqual(alike(other), tuple(due))
            self.assertEqual(shrunk(other)[0], shrunk(table)[0])


if __name__ == "__main__":
    unittest.main()
