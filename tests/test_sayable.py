import itertools
import unittest

from tests.helper import GradeCase, Mixer, plain_cell, plain_grade
from truthgrades.errors import NoLetter, NoName, TooMany
from truthgrades.sayable import column_of, sayable

TWO = (2, (1,), (("and", 2, (0, 0, 0, 1)), ("not", 1, (1, 0))))
LOW = (2, (1,), (("and", 2, (0, 0, 0, 1)), ("or", 2, (0, 1, 1, 1))))
THREE = (3, (2,), (("then", 2, (2, 2, 2, 0, 2, 2, 0, 1, 2)), ("half", 0, (1,)), ("not", 1, (2, 0, 0))))
PQ = (("p", (0, 0, 1, 1)), ("q", (0, 1, 0, 1)))

# Each of the three connectives leads on within three grades of its own; the third one of each stays.
CLIMBING = tuple(
    (name, 1, tuple(one + 1 if one in (first, first + 1) else one for one in range(9)))
    for name, first in (("ff", 0), ("gg", 3), ("hh", 6))
)
# Each letter's column leads to 27 columns, and no two letters' ones have one in common.
CLIMBERS = (("p", (0, 3, 6)), ("q", (3, 6, 0)), ("r", (6, 0, 3)))


def plain_step(table, name, columns, length):
    return tuple(plain_cell(table, name, [column[place] for column in columns]) for place in range(length))


def plain_columns(table, columns, length, most=2000):
    """All columns that sayings have, found by going on until nothing new comes."""
    told = {column for letter, column in columns}
    while True:
        wider = set(told)
        for name, places, cells in table[2]:
            for parts in itertools.product(sorted(told), repeat=places):
                wider.add(plain_step(table, name, parts, length))
        if wider == told or len(wider) > most:
            return wider
        told = wider


def written_out(lines):
    """The saying that lines say."""
    sayings = []
    for line in lines:
        sayings.append(line if isinstance(line, str) else (line[0],) + tuple(sayings[number] for number in line[1:]))
    return sayings[-1]


def plain_column(table, columns, saying, length):
    """The column of a saying, by a plain grading for each place."""
    return tuple(
        plain_grade(table, saying, {letter: column[place] for letter, column in columns}) for place in range(length)
    )


class SayableCase(GradeCase):
    def question(self, table, columns, wish):
        """Asks, and sees to it that the answer is right; tells its word."""
        told = self.ask(sayable, table, columns, wish)
        self.assertIs(type(told), tuple)
        self.assertEqual(len(told), 2)
        due = plain_columns(table, columns, len(wish))
        self.assertLessEqual(len(due), 81)
        if wish in due:
            self.assertEqual(told[0], "said")
            self.sees_lines(table, columns, told[1], wish)
        else:
            self.same(told, ("unsaid", tuple(sorted(due))))
        return told[0]

    def sees_lines(self, table, columns, lines, wish):
        self.assertIs(type(lines), tuple)
        self.assertGreater(len(lines), 0)
        letters = dict(columns)
        shapes = [(name, places) for name, places, cells in table[2]]
        found = []
        for number, line in enumerate(lines):
            if isinstance(line, str):
                self.assertIn(line, letters)
                found.append(letters[line])
            else:
                self.assertIs(type(line), tuple)
                self.assertIn((line[0], len(line) - 1), shapes)
                self.assertTrue(all(type(part) is int and 0 <= part < number for part in line[1:]), lines)
                found.append(plain_step(table, line[0], [found[part] for part in line[1:]], len(wish)))
        self.assertEqual(found[-1], wish)
        if columns:
            self.tells(wish, column_of, table, columns, lines)


class Sayable(SayableCase):
    def test_two_grades(self):
        # With and and not each of the sixteen columns can be said.
        for wish in itertools.product(range(2), repeat=4):
            self.assertEqual(self.question(TWO, PQ, wish), "said")

    def test_what_never_falls_is_all_that_can_be_said(self):
        kept = ((0, 0, 0, 1), (0, 0, 1, 1), (0, 1, 0, 1), (0, 1, 1, 1))
        for wish in itertools.product(range(2), repeat=4):
            if wish in kept:
                self.assertEqual(self.question(LOW, PQ, wish), "said")
            else:
                self.tells(("unsaid", kept), sayable, LOW, PQ, wish)

    def test_three_grades(self):
        for wish in itertools.product(range(3), repeat=3):
            self.question(THREE, (("p", (0, 1, 2)),), wish)

    def test_a_letters_own_column(self):
        self.tells(("said", ("p",)), sayable, TWO, PQ, (0, 0, 1, 1))
        self.tells(("said", ("q",)), sayable, TWO, PQ, (0, 1, 0, 1))

    def test_two_letters_with_one_column(self):
        columns = (("p", (0, 1)), ("q", (0, 1)), ("r", (1, 1)))
        self.assertEqual(self.question(LOW, columns, (0, 1)), "said")
        self.tells(("unsaid", ((0, 1), (1, 1))), sayable, LOW, columns, (0, 0))

    def test_no_letters(self):
        self.tells(("unsaid", ()), sayable, TWO, (), (0,))
        self.tells(("unsaid", ()), sayable, (9, (), ()), (), (8,) * 9)
        self.tells(("said", (("half",),)), sayable, THREE, (), (1, 1, 1, 1))
        # From half: not half is 0, not of this 2, so each column of one grade alone.
        for length in range(1, 10):
            for one in range(3):
                self.assertEqual(self.question(THREE, (), (one,) * length), "said")
            kept = tuple((one,) * length for one in range(3))
            if length > 1:
                self.tells(("unsaid", kept), sayable, THREE, (), (0,) * (length - 1) + (1,))

    def test_no_connectives(self):
        table = (9, (), ())
        self.tells(("said", ("q",)), sayable, table, (("p", (0, 8)), ("q", (8, 0))), (8, 0))
        self.tells(("unsaid", ((0, 8), (8, 0))), sayable, table, (("p", (8, 0)), ("q", (0, 8))), (8, 8))
        self.tells(("unsaid", ()), sayable, table, (), (8, 8))

    def test_one_grade(self):
        table = (1, (0,), (("no", 0, (0,)), ("not", 1, (0,)), ("and", 2, (0,))))
        for length in range(1, 10):
            self.assertEqual(self.question(table, (), (0,) * length), "said")
            self.assertEqual(self.question(table, (("p", (0,) * length),), (0,) * length), "said")

    def test_columns_of_one_to_nine_places(self):
        for length in range(1, 10):
            columns = (("p", tuple(place % 2 for place in range(length))), ("q", (0,) * length), ("r", (1,) * length))
            for wish in (columns[0][1], (0,) * length, tuple(1 - place % 2 for place in range(length)), (1, 0, 0) * 3):
                self.question(TWO, columns, wish[:length])
                self.question(LOW, columns, wish[:length])

    def test_parts_stand_in_order(self):
        # minus is not the same both ways.
        minus = (5, (), (("minus", 2, tuple((x - y) % 5 for x in range(5) for y in range(5))),))
        for wish in itertools.product(range(5), repeat=2):
            self.question(minus, (("a", (1, 2)),), wish)
            self.question(minus, (("a", (1, 2)), ("b", (0, 1))), wish)

    def test_both_orders_are_tried(self):
        # first(x, y) leads from (1, 2) to 0 but from (2, 1) to 2, so the order of the letters must not count.
        cells = [2] * 9
        cells[1 * 3 + 2] = 0
        table = (3, (), (("first", 2, tuple(cells)),))
        for columns in ((("p", (1,)), ("q", (2,))), (("p", (2,)), ("q", (1,)))):
            self.assertEqual(self.question(table, columns, (0,)), "said")

    def test_as_plainly(self):
        mixer = Mixer(8)
        words = []
        shapes = (("no", 0), ("not", 1), ("and", 2), ("then", 2), ("so", 1), ("yes", 0))
        for step in range(300):
            many, length = 1 + mixer.number(4), 1 + mixer.number(5)
            table = mixer.table(many, mixer.some(shapes))
            columns = tuple((letter, tuple(mixer.number(many) for place in range(length))) for letter in mixer.some("pqr"))
            wish = tuple(mixer.number(many) for place in range(length))
            if len(plain_columns(table, columns, length, 81)) > 81:
                self.refuses(TooMany, sayable, table, columns, wish)
                words.append("refused")
            else:
                words.append(self.question(table, columns, wish))
        for word in ("said", "unsaid", "refused"):
            self.assertGreater(words.count(word), 10, word)

    def test_what_is_said_has_the_column_by_plain_gradings(self):
        for wish in itertools.product(range(2), repeat=4):
            lines = sayable(TWO, PQ, wish)[1]
            self.assertEqual(plain_column(TWO, PQ, written_out(lines), 4), wish)

    def test_kept_columns_are_the_askers_own(self):
        columns = (("p", (0, 1)),)
        told = sayable(LOW, columns, (1, 0))
        self.same(told, ("unsaid", ((0, 1),)))
        self.assertIsNot(told[1][0], columns[0][1])


class TooManyColumns(SayableCase):
    def test_just_eighty_one(self):
        table = (9, (), CLIMBING)
        self.assertEqual(len(plain_columns(table, CLIMBERS, 3)), 81)
        for wish in ((0, 3, 6), (2, 5, 8), (8, 2, 5), (5, 7, 2), (0, 0, 0), (3, 0, 6), (8, 8, 8)):
            self.question(table, CLIMBERS, wish)
        self.assertEqual(len(self.ask(sayable, table, CLIMBERS, (0, 0, 0))[1]), 81)

    def test_one_more(self):
        # One column more: of a constant that none of the others leads on.
        table = (9, (), CLIMBING + (("top", 0, (2,)),))
        self.assertEqual(len(plain_columns(table, CLIMBERS, 3)), 82)
        for wish in ((0, 3, 6), (2, 5, 8), (2, 2, 2), (0, 0, 0), (8, 8, 8)):
            self.same(vars(self.refuses(TooMany, sayable, table, CLIMBERS, wish)), {})
        table = (9, (), (("top", 0, (2,)),) + CLIMBING)
        self.refuses(TooMany, sayable, table, CLIMBERS, (0, 3, 6))

    def test_all_pairs_of_nine_grades(self):
        plus = (9, (), (("plus", 2, tuple((x + y) % 9 for x in range(9) for y in range(9))),))
        columns = (("p", (1, 0)), ("q", (0, 1)))
        for wish in itertools.product(range(9), repeat=2):
            self.assertEqual(self.ask(sayable, plus, columns, wish)[0], "said")
        self.question(plus, columns, (8, 8))
        columns = (("p", (1, 0, 1)), ("q", (0, 1, 1)), ("r", (0, 0, 1)))
        for wish in ((1, 0, 1), (5, 5, 5), (0, 0, 0)):
            self.refuses(TooMany, sayable, plus, columns, wish)

    def test_eighty_one_unsaid(self):
        plus = (9, (), (("plus", 2, tuple((x + y) % 9 for x in range(9) for y in range(9))),))
        columns = (("p", (1, 0, 0)), ("q", (0, 1, 0)))
        told = self.ask(sayable, plus, columns, (0, 0, 1))
        self.same(told, ("unsaid", tuple((x, y, 0) for x in range(9) for y in range(9))))

    def test_far_more(self):
        table = (9, (), tuple(
            (name, 2, tuple((x + number * y + 1) % 9 for x in range(9) for y in range(9)))
            for number, name in enumerate(("aa", "bb", "cc", "dd", "ee", "ff", "gg", "hh"))
        ))
        columns = tuple((letter, tuple(place ** power % 9 for place in range(9))) for power, letter in enumerate("pqr", 1))
        for wish in (columns[0][1], (0,) * 9):
            self.refuses(TooMany, sayable, table, columns, wish)

    def test_a_refusal_changes_nothing(self):
        table = (9, (), CLIMBING + (("top", 0, (2,)),))
        self.refuses(TooMany, sayable, table, CLIMBERS, (2, 2, 2))
        self.tells(("said", (("top",),)), sayable, table, CLIMBERS[:2], (2, 2, 2))


class ColumnOf(GradeCase):
    def test_one_line(self):
        self.tells((0, 0, 1, 1), column_of, TWO, PQ, ("p",))
        self.tells((1, 1, 1), column_of, THREE, (("p", (0, 1, 2)),), (("half",),))

    def test_several_lines(self):
        self.tells((0, 0, 0, 1), column_of, TWO, PQ, ("p", "q", ("and", 0, 1)))
        self.tells((1, 1, 1, 0), column_of, TWO, PQ, ("p", "q", ("and", 0, 1), ("not", 2)))
        self.tells((0, 0, 1, 0), column_of, TWO, PQ, ("q", ("not", 0), "p", ("and", 1, 2)))

    def test_parts_stand_in_order(self):
        columns = (("p", (0, 1, 2, 1)), ("q", (0, 0, 1, 2)))
        self.tells((2, 0, 1, 2), column_of, THREE, columns, ("p", "q", ("then", 0, 1)))
        self.tells((2, 2, 2, 1), column_of, THREE, columns, ("p", "q", ("then", 1, 0)))
        self.tells((2, 2, 2, 1), column_of, THREE, columns, ("q", "p", ("then", 0, 1)))

    def test_the_last_line_alone_counts(self):
        self.tells((0, 1, 0, 1), column_of, TWO, PQ, ("p", ("not", 0), "q"))
        self.tells((0, 0, 1, 1), column_of, TWO, PQ, ("q", ("and", 0, 0), "p"))

    def test_one_line_for_several_parts(self):
        doubling = ("p",) + tuple(("then", number, number) for number in range(200)) + (("not", 200),)
        self.tells((0, 0, 0), column_of, THREE, (("p", (0, 1, 2)),), doubling)
        self.tells((0, 1), column_of, TWO, (("p", (0, 1)),), ("p",) + tuple(("not", number) for number in range(1000)))

    def test_columns_of_one_to_nine_places(self):
        for length in range(1, 10):
            column = tuple(place * 5 % 9 for place in range(length))
            table = (9, (), (("up", 1, tuple((one + 1) % 9 for one in range(9))), ("top", 0, (8,))))
            due = tuple((one + 2) % 9 for one in column)
            self.tells(due, column_of, table, (("z", column),), ("z", ("up", 0), ("up", 1)))
            self.tells((0,) * length, column_of, table, (("z", column),), (("top",), ("up", 0)))

    def test_as_plain_gradings_say(self):
        mixer = Mixer(9)
        for step in range(200):
            many, length = 1 + mixer.number(9), 1 + mixer.number(9)
            table = mixer.table(many)
            columns = tuple((letter, tuple(mixer.number(many) for place in range(length))) for letter in "pq")
            lines = ["p", "q"]
            for number in range(2, 2 + mixer.number(7)):
                name, places, cells = mixer.pick(table[2])
                lines.append((name,) + tuple(mixer.number(number) for place in range(places)))
            due = plain_column(table, columns, written_out(lines), length)
            self.tells(due, column_of, table, columns, tuple(lines))

    def test_names_and_letters_that_are_not_there(self):
        for name, lines in (
            ("nor", (("nor",),)), ("nor", ("p", ("nor", 0))), ("not", ("p", ("not", 0, 0))), ("and", ("p", ("and", 0))),
            ("bb", ("p", ("aa", 0), ("bb", 1))), ("aa", (("bb",), ("aa",), ("and", 1, 0))), ("aa", ("z", ("aa", 0))),
        ):
            told = self.refuses(NoName, column_of, TWO, PQ, lines)
            self.same(vars(told), {"name": name})
        for letter, lines in (("z", ("z",)), ("z", ("p", "z", ("and", 0, 1))), ("y", ("z", "y", ("and", 1, 0)))):
            told = self.refuses(NoLetter, column_of, TWO, PQ, lines)
            self.same(vars(told), {"letter": letter})

    def test_a_told_column_is_new(self):
        self.assertIsNot(column_of(TWO, PQ, ("p",)), PQ[0][1])


if __name__ == "__main__":
    unittest.main()
