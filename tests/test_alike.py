import itertools
import unittest

from tests.helper import GradeCase, Mixer, plain_cell, plain_grade, plain_gradings, plain_letters
from tests.test_tables import NAMES, whole_tables
from truthgrades.alike import alike, led, parting

THREE = (3, (2,), (("and", 2, (0, 0, 0, 0, 1, 1, 0, 1, 2)), ("not", 1, (2, 0, 0))))
# minus parts by its second place alone what it doesn't part by the first one.
MINUS = (4, (0,), (("minus", 2, (0, 0, 0, 1, 1, 1, 1, 1, 1, 1, 1, 1, 1, 1, 1, 1)),))


def plain_led(table, steps, grade):
    for name, place, other in steps:
        if other is None:
            grade = plain_cell(table, name, [grade])
        else:
            grade = plain_cell(table, name, [grade, other] if place == 0 else [other, grade])
    return grade


def all_steps(table):
    for name, places, cells in table[2]:
        if places == 1:
            yield (name, 0, None)
        if places == 2:
            yield from itertools.product([name], [0, 1], range(table[0]))


def plainly_unlike(table):
    """The pairs that some steps part: first those of a wished and another grade, then all that lead to them."""
    unlike = {
        (x, y) for x in range(table[0]) for y in range(table[0]) if (x in table[1]) != (y in table[1])
    }
    steps = list(all_steps(table))
    while True:
        wider = set(unlike)
        for x in range(table[0]):
            for y in range(table[0]):
                if any((plain_led(table, [step], x), plain_led(table, [step], y)) in unlike for step in steps):
                    wider.add((x, y))
        if wider == unlike:
            return unlike
        unlike = wider


def saying_of(steps):
    """The saying that the steps stand for, of the letter x, and a grading of its other letters."""
    saying, grading = "x", {}
    for letter, (name, place, other) in zip("abcdefghij", steps):
        if other is None:
            saying = (name, saying)
        else:
            saying = (name, saying, letter) if place == 0 else (name, letter, saying)
            grading[letter] = other
    return saying, grading


class AlikeCase(GradeCase):
    def question(self, table):
        """Asks of the parts and of each two grades, and sees to it that all is right; tells the parts."""
        parts = self.ask(alike, table)
        unlike = plainly_unlike(table)
        due = [tuple(y for y in range(table[0]) if (x, y) not in unlike) for x in range(table[0])]
        self.same(parts, tuple(sorted(set(due))))
        self.are_kept(table, parts)
        for x in range(table[0]):
            for y in range(table[0]):
                self.sees_parting(table, x, y, (x, y) in unlike)
        return parts

    def are_kept(self, table, parts):
        where = {grade: number for number, part in enumerate(parts) for grade in part}
        self.assertEqual(sorted(grade for part in parts for grade in part), list(range(table[0])))
        for part in parts:
            self.assertGreater(len(part), 0)
            self.assertEqual(len({grade in table[1] for grade in part}), 1)
            for step in all_steps(table):
                self.assertEqual(len({where[plain_led(table, [step], grade)] for grade in part}), 1)

    def sees_parting(self, table, x, y, is_unlike):
        steps = self.ask(parting, table, x, y)
        if not is_unlike:
            self.assertIsNone(steps)
            return
        self.assertIs(type(steps), tuple)
        for step in steps:
            self.assertIs(type(step), tuple)
            self.assertIn(repr(step), [repr(one) for one in all_steps(table)])
        ends = [plain_led(table, steps, grade) in table[1] for grade in (x, y)]
        self.assertNotEqual(*ends)
        for grade in (x, y):
            self.tells(plain_led(table, steps, grade), led, table, steps, grade)
        # The steps are a saying that parts the two grades of its letter x.
        saying, grading = saying_of(steps)
        said = [plain_grade(table, saying, {**grading, "x": grade}) in table[1] for grade in (x, y)]
        self.assertEqual(said, ends)


class Alike(AlikeCase):
    def test_no_connective(self):
        self.tells(((0, 1, 2, 3), ), alike, (4, (), ()))
        self.tells(((0, 1, 2, 3), ), alike, (4, (0, 1, 2, 3), ()))
        self.tells(((0, 2), (1, 3)), alike, (4, (1, 3), ()))
        self.tells(((0, 2), (1, 3)), alike, (4, (0, 2), ()))
        self.tells(((0, 1, 3, 4, 5, 6, 7), (2, 8)), alike, (9, (2, 8), ()))

    def test_one_grade(self):
        for table in ((1, (), ()), (1, (0,), ()), (1, (0,), (("not", 1, (0,)), ("and", 2, (0,)), ("no", 0, (0,))))):
            self.tells(((0,),), alike, table)
            self.tells(None, parting, table, 0, 0)

    def test_constants_part_nothing(self):
        self.tells(((0, 1), (2,)), alike, (3, (2,), (("no", 0, (1,)), ("yes", 0, (2,)))))

    def test_three_grades(self):
        # not leads 0 to the wished grade, and 1 not.
        self.tells(((0,), (1,), (2,)), alike, THREE)
        self.tells(((0, 1), (2,)), alike, (3, (2,), THREE[2][:1]))
        self.tells((("not", 0, None),), parting, THREE, 0, 1)
        self.tells((("not", 0, None),), parting, THREE, 1, 0)
        self.tells((), parting, THREE, 0, 2)
        self.tells((), parting, THREE, 2, 1)
        self.tells(None, parting, THREE, 1, 1)
        self.tells(None, parting, (3, (2,), THREE[2][:1]), 0, 1)

    def test_by_either_place(self):
        # Of the second place 3 alone is another, of the first place 0 alone.
        self.tells(((0,), (1, 2), (3,)), alike, MINUS)
        self.tells((("minus", 1, 0),), parting, MINUS, 1, 3)
        self.tells((("minus", 1, 0),), parting, MINUS, 3, 2)
        self.tells(None, parting, MINUS, 1, 2)
        turned = (4, (0,), (("minus", 2, tuple(MINUS[2][0][2][y * 4 + x] for x in range(4) for y in range(4))),))
        self.tells(((0,), (1, 2), (3,)), alike, turned)
        self.tells((("minus", 0, 0),), parting, turned, 1, 3)

    def test_a_long_way(self):
        # Nine grades in a row, the last one wished: each is so many steps away from it, no two the same.
        up = (9, (8,), (("up", 1, (1, 2, 3, 4, 5, 6, 7, 8, 8)),))
        self.tells(tuple((one,) for one in range(9)), alike, up)
        self.tells((("up", 0, None),) * 7, parting, up, 0, 1)
        self.tells((("up", 0, None),) * 3, parting, up, 5, 2)
        around = (9, (0,), (("up", 1, (1, 2, 3, 4, 5, 6, 7, 8, 0)),))
        self.tells(tuple((one,) for one in range(9)), alike, around)
        self.tells(((0, 3, 6), (1, 4, 7), (2, 5, 8)), alike, (9, (0, 3, 6), around[2]))

    def test_nine_grades_and_eight_connectives(self):
        plus = tuple((name, 2, tuple((x + y) % 9 for x in range(9) for y in range(9))) for name in NAMES[:8])
        self.assertEqual(len(self.question((9, (0,), plus))), 9)
        self.assertEqual(self.question((9, (1, 4, 7), plus)), ((0, 3, 6), (1, 4, 7), (2, 5, 8)))
        self.assertEqual(self.question((9, (), plus)), (tuple(range(9)),))

    def test_whole_tables(self):
        for table in whole_tables():
            self.question(table)

    def test_as_plainly(self):
        mixer = Mixer(10)
        numbers = []
        for step in range(150):
            many = 1 + step % 9
            # Without a connective of two places some grades stay alike more often.
            table = mixer.table(many, mixer.some((("not", 1), ("so", 1), ("no", 0))))
            numbers.append(many - len(self.question(table)))
        for step in range(60):
            table = mixer.table(1 + step % 6, mixer.some((("and", 2), ("not", 1))))
            numbers.append(table[0] - len(self.question(table)))
        self.assertGreater(sum(number > 0 for number in numbers), 40)
        self.assertGreater(numbers.count(0), 40)

    def test_alike_grades_by_sayings(self):
        # No saying of depth two parts what is told as alike, at no grading of its other letters.
        mixer = Mixer(11)
        for step in range(40):
            low = mixer.table(3, (("and", 2), ("not", 1)))
            # Grade 3 is made to go as grade 2 does, so that these two at least are alike.
            table = self.with_a_twin(low)
            parts = alike(table)
            self.assertTrue(any(2 in part and 3 in part for part in parts))
            for saying in self.sayings(table):
                for grading in plain_gradings(4, sorted(plain_letters(saying) - {"x"})):
                    for part in parts:
                        told = {plain_grade(table, saying, {**grading, "x": grade}) in table[1] for grade in part}
                        self.assertEqual(len(told), 1, (table, saying, grading, part))

    def with_a_twin(self, low):
        back = (0, 1, 2, 2)
        connectives = []
        for name, places, cells in low[2]:
            grades = itertools.product(range(4), repeat=places)
            connectives.append((name, places, tuple(plain_cell(low, name, [back[one] for one in some]) for some in grades)))
        return (4, tuple(one for one in range(4) if back[one] in low[1]), tuple(connectives))

    def sayings(self, table):
        near = ["x", "a", ("not", "x"), ("and", "x", "a"), ("and", "x", "x")]
        return near + [("not", one) for one in near] + [("and", one, other) for one in near for other in near]


class Led(GradeCase):
    def test_no_steps(self):
        for grade in range(3):
            self.tells(grade, led, THREE, (), grade)
        self.tells(8, led, (9, (), ()), (), 8)

    def test_one_step(self):
        self.tells(2, led, THREE, (("not", 0, None),), 0)
        self.tells(0, led, THREE, (("not", 0, None),), 1)
        self.tells(1, led, THREE, (("and", 0, 1),), 2)
        self.tells(0, led, THREE, (("and", 1, 0),), 2)

    def test_places(self):
        then = (3, (2,), (("then", 2, (2, 2, 2, 0, 2, 2, 0, 1, 2)),))
        for x in range(3):
            for y in range(3):
                self.tells(then[2][0][2][x * 3 + y], led, then, (("then", 0, y),), x)
                self.tells(then[2][0][2][x * 3 + y], led, then, (("then", 1, x),), y)

    def test_one_after_the_other(self):
        steps = (("not", 0, None), ("and", 0, 1), ("not", 0, None))
        self.tells(0, led, THREE, steps, 0)
        self.tells(2, led, THREE, steps, 1)
        up = (9, (), (("up", 1, (1, 2, 3, 4, 5, 6, 7, 8, 0)), ("down", 1, (0, 0, 1, 2, 3, 4, 5, 6, 7))))
        self.tells(0, led, up, (("up", 0, None),) * 1000, 8)
        self.tells(1, led, up, (("down", 0, None), ("up", 0, None)), 0)
        self.tells(0, led, up, (("up", 0, None), ("down", 0, None)), 0)

    def test_as_plainly(self):
        mixer = Mixer(12)
        for step in range(200):
            table = mixer.table(1 + step % 9)
            all_of_them = list(all_steps(table))
            steps = tuple(mixer.pick(all_of_them) for number in range(mixer.number(6)))
            grade = mixer.number(table[0])
            self.tells(plain_led(table, steps, grade), led, table, steps, grade)


if __name__ == "__main__":
    unittest.main()
