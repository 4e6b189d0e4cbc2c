import unittest

from tests.helper import GradeCase, Mixer, built, plain_cell, plain_gradings, plain_grade, shapes_of
from tests.test_alike import plainly_unlike
from tests.test_following import letters_of_question, plainly_follows
from tests.test_tables import NAMES, whole_tables
from truthgrades.alike import alike
from truthgrades.following import follows
from truthgrades.shrinking import shrunk
from truthgrades.tables import is_table


def plain_parts(table):
    unlike = plainly_unlike(table)
    return sorted({tuple(y for y in range(table[0]) if (x, y) not in unlike) for x in range(table[0])})


def plainly_shrunk(table, which=0):
    """By the first or the last grade of each part, or whichever is asked for."""
    parts = plain_parts(table)
    number = {grade: place for place, part in enumerate(parts) for grade in part}
    return built(
        len(parts), lambda one: parts[one][which] in table[1], shapes_of(table),
        lambda name, grades: number[plain_cell(table, name, [parts[one][which] for one in grades])],
    )


def with_twins(low, back):
    """A table with grades that go as those of a smaller one do: grade g as back[g]."""
    return built(
        len(back), lambda one: back[one] in low[1], shapes_of(low),
        lambda name, grades: back.index(plain_cell(low, name, [back[one] for one in grades])),
    )


class Shrunk(GradeCase):
    def question(self, table):
        """Asks, and sees to it that the answer is right; tells it."""
        told = self.ask(shrunk, table)
        self.same(told, plainly_shrunk(table))
        # The connectives may be told by any grades of the parts: all give the same.
        self.same(told, plainly_shrunk(table, -1))
        self.assertTrue(is_table(told))
        self.is_new(told, table)
        unlike = plainly_unlike(told)
        for x in range(told[0]):
            for y in range(told[0]):
                self.assertEqual((x, y) in unlike, x != y)
        return told

    def test_no_connective(self):
        self.tells((2, (1,), ()), shrunk, (4, (1, 3), ()))
        self.tells((2, (0,), ()), shrunk, (4, (0, 3), ()))
        self.tells((1, (), ()), shrunk, (9, (), ()))
        self.tells((1, (0,), ()), shrunk, (9, tuple(range(9)), ()))
        self.tells((2, (1,), ()), shrunk, (9, (2, 8), ()))

    def test_one_grade(self):
        for table in ((1, (), ()), (1, (0,), ()), (1, (0,), (("not", 1, (0,)), ("and", 2, (0,)), ("no", 0, (0,))))):
            self.tells(table, shrunk, table)

    def test_by_hand(self):
        # 0 and 1 are alike: and leads both to one of them, but for with themselves.
        low = ("and", 2, (0, 0, 0, 0, 1, 1, 0, 1, 2))
        self.tells((2, (1,), (("and", 2, (0, 0, 0, 1)),)), shrunk, (3, (2,), (low,)))
        # not parts them, so nothing can be put together.
        three = (3, (2,), (low, ("not", 1, (2, 0, 0))))
        self.tells(three, shrunk, three)
        # 1 and 2 are alike, 3 becomes 2; the connectives stay in their order.
        table = (4, (3,), (("up", 1, (3, 0, 0, 2)), ("mid", 0, (2,)), ("top", 0, (3,))))
        self.tells((3, (2,), (("up", 1, (2, 0, 1)), ("mid", 0, (1,)), ("top", 0, (2,)))), shrunk, table)

    def test_parts_are_numbered_by_their_first_grades(self):
        around = ("up", 1, (1, 2, 3, 4, 5, 6, 7, 8, 0))
        self.tells((3, (1,), (("up", 1, (1, 2, 0)),)), shrunk, (9, (1, 4, 7), (around,)))
        self.tells((2, (0,), (("up", 1, (1, 0)),)), shrunk, (4, (0, 2), (("up", 1, (3, 0, 1, 2)),)))

    def test_nine_grades_and_eight_connectives(self):
        plus = tuple((name, 2, tuple((x + y) % 9 for x in range(9) for y in range(9))) for name in NAMES[:8])
        three = tuple((name, 2, tuple((x + y) % 3 for x in range(3) for y in range(3))) for name in NAMES[:8])
        self.tells((9, (0,), plus), shrunk, (9, (0,), plus))
        self.tells((3, (1,), three), shrunk, (9, (1, 4, 7), plus))
        self.tells((1, (), tuple((name, 2, (0,)) for name in NAMES[:8])), shrunk, (9, (), plus))

    def test_whole_tables(self):
        for table in whole_tables():
            self.question(table)

    def test_as_plainly(self):
        mixer = Mixer(21)
        smaller = 0
        for step in range(120):
            table = mixer.table(1 + step % 9, mixer.some((("not", 1), ("so", 1), ("no", 0))))
            smaller += self.question(table)[0] < table[0]
        for step in range(60):
            back = (0, 1, 2) + tuple(mixer.number(3) for number in range(mixer.number(5)))
            table = with_twins(mixer.table(3), back)
            smaller += self.question(table)[0] < table[0]
        self.assertGreater(smaller, 60)

    def test_shrunk_twice_is_shrunk_once(self):
        mixer = Mixer(22)
        for step in range(40):
            table = shrunk(with_twins(mixer.table(3), (0, 1, 2, mixer.number(3), mixer.number(3))))
            self.tells(table, shrunk, table)
            self.assertEqual(alike(table), tuple((one,) for one in range(table[0])))

    def test_the_same_follows(self):
        mixer = Mixer(23)
        told = []
        for step in range(120):
            low = mixer.table(1 + step % 3)
            table = with_twins(low, tuple(range(low[0])) + tuple(mixer.number(low[0]) for number in range(1 + step % 3)))
            small = shrunk(table)
            self.assertLess(small[0], table[0])
            premises = [mixer.saying(table, "pq", 2) for number in range(mixer.number(3))]
            saying = mixer.saying(table, "pq", 3)
            due = plainly_follows(table, premises, saying)
            self.assertEqual(plainly_follows(small, premises, saying), due, (table, premises, saying))
            self.assertEqual(follows(small, premises, saying)[0], "follows" if due else "barred")
            told.append(due)
        self.assertGreater(told.count(True), 20)
        self.assertGreater(told.count(False), 20)

    def test_grades_go_with_their_parts(self):
        # A saying's grade in the shrunk table is the part of its grade in the table.
        mixer = Mixer(24)
        for step in range(40):
            table = with_twins(mixer.table(3), (0, 1, 2, mixer.number(3)))
            small = shrunk(table)
            number = {grade: place for place, part in enumerate(plain_parts(table)) for grade in part}
            saying = mixer.saying(table, "pq", 3)
            for grading in plain_gradings(4, letters_of_question([], saying)):
                lower = {letter: number[grade] for letter, grade in grading.items()}
                self.assertEqual(plain_grade(small, saying, lower), number[plain_grade(table, saying, grading)])


if __name__ == "__main__":
    unittest.main()
