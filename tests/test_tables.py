import unittest

from tests.helper import OTHER_KINDS, GradeCase, shown
from truthgrades.tables import fillings, is_half, is_table

NAMES = ("aa", "bb", "cc", "dd", "ee", "ff", "gg", "hh", "ii")
TWO = (2, (1,), (("and", 2, (0, 0, 0, 1)), ("not", 1, (1, 0)), ("false", 0, (0,))))


def with_connective(*connective):
    return (2, (1,), (connective,))


def whole_tables():
    """Tables of each number of grades, with connectives of each number of places."""
    for many in range(1, 10):
        grades = tuple(range(many))
        connectives = (("no", 0, (many - 1,)), ("one", 1, grades[::-1]), ("two", 2, grades * many))
        yield (many, (), ())
        yield (many, grades, connectives)
        yield (many, grades[-1:], connectives[1:])


class Tables(GradeCase):
    def test_tables(self):
        self.tells(True, is_half, TWO)
        self.tells(True, is_table, TWO)
        for table in whole_tables():
            with self.subTest(table=table):
                self.tells(True, is_half, table)
                self.tells(True, is_table, table)
                self.tells(1, fillings, table)

    def test_half_tables(self):
        for half in (
            with_connective("not", 1, (None, 0)), with_connective("or", 2, (0, 1, 1, None)),
            with_connective("false", 0, (None,)), with_connective("not", 1, (None, None)),
            (1, (), (("it", 0, (None,)),)), TWO[:2] + (TWO[2] + (("or", 2, (None,) * 4),),),
        ):
            with self.subTest(half=half):
                self.tells(True, is_half, half)
                self.tells(False, is_table, half)

    def test_fillings(self):
        self.tells(1, fillings, (9, (), ()))
        self.tells(1, fillings, TWO)
        self.tells(2, fillings, with_connective("not", 1, (None, 0)))
        self.tells(4, fillings, with_connective("not", 1, (None, None)))
        self.tells(1, fillings, (1, (), (("two", 2, (None,)), ("one", 1, (None,)))))
        self.tells(9, fillings, (9, (), (("no", 0, (None,)),)))
        self.tells(27, fillings, (3, (2,), (("no", 0, (None,)), ("not", 1, (2, None, None)))))
        every = tuple((name, 2, (None,) * 81) for name in NAMES[:8])
        self.tells(9 ** 648, fillings, (9, (), every))

    def test_number_of_grades(self):
        for many in (0, 10, -1, 10 ** 5000, True, False, None, 1.0, "2", (2,), [2]):
            with self.subTest(many=shown(many)):
                self.same(is_half((many, (), ())), False)
                self.same(is_table((many, (), ())), False)

    def test_wished(self):
        for wished in ((), (0,), (8,), (0, 8), (3, 4, 7), tuple(range(9))):
            self.tells(True, is_table, (9, wished, ()))
        for wished in (
            (9,), (-1,), (0, 9), (1, 0), (1, 1), (0, 2, 1), (0, 0), (True,), (False,), (0, True), (None,), (1.0,),
            ("1",), ((1,),), [], [1], {}, {1: 1}, None, 1, "", "1", range(2),
        ):
            with self.subTest(wished=wished):
                self.tells(False, is_half, (9, wished, ()))
                self.tells(False, is_table, (9, wished, ()))

    def test_number_of_connectives(self):
        for number in range(10):
            for places, cells in ((0, (1,)), (1, (0, 1)), (2, (0, 1, None, 0))):
                half = (2, (1,), tuple((name, places, cells) for name in NAMES[:number]))
                self.tells(number <= 8, is_half, half)

    def test_connectives_have_unlike_names(self):
        self.tells(True, is_table, (2, (1,), (("no", 0, (1,)), ("not", 0, (1,)))))
        self.tells(False, is_half, (2, (1,), (("no", 0, (1,)), ("no", 0, (1,)))))
        self.tells(False, is_half, (2, (1,), (("no", 0, (1,)), ("on", 0, (1,)), ("no", 1, (1, 0)))))

    def test_names(self):
        for name in ("or", "aa", "zz", "abcdefgh", "wished", "grades"):
            self.tells(True, is_table, with_connective(name, 0, (1,)))
        for name in ("", "p", "abcdefghi", "Or", "o1", "o r", "or ", "or\n", "o_", "\u00e9t", None, 1, True, ("or",),
                     ["or"], ("o", "r"), b"or"):
            with self.subTest(name=name):
                self.tells(False, is_half, with_connective(name, 0, (1,)))

    def test_places(self):
        for places in (-1, 3, True, False, None, 1.0, "1", (1,), [1]):
            for cells in ((), (1,), (0, 1), (0, 1, 0, 1), (0, 1) * 4):
                with self.subTest(places=places, cells=cells):
                    self.tells(False, is_half, with_connective("or", places, cells))

    def test_number_of_cells(self):
        for many in (1, 2, 3, 9):
            for places in range(3):
                for number in range(many ** places + 3):
                    half = (many, (), (("or", places, (0,) * number),))
                    self.tells(number == many ** places, is_half, half)
                    self.tells(number == many ** places, is_table, half)

    def test_cells(self):
        for cell in (2, -1, 10 ** 100, True, False, 1.0, "1", "None", (), (1,), [1], {}):
            with self.subTest(cell=cell):
                self.tells(False, is_half, with_connective("not", 1, (cell, 0)))
                self.tells(False, is_half, with_connective("not", 1, (0, cell)))
                self.tells(False, is_table, with_connective("not", 1, (None, cell)))

    def test_lists_for_tuples(self):
        connective = ("not", 1, (1, 0))
        for thing in (
            [2, (1,), (connective,)], (2, [1], (connective,)), (2, (1,), [connective]), (2, (1,), (list(connective),)),
            (2, (1,), (("not", 1, [1, 0]),)), (2, (1,), {"not": (1, (1, 0))}), (2, (1,), {connective: True}),
        ):
            with self.subTest(thing=thing):
                self.tells(False, is_half, thing)
                self.tells(False, is_table, thing)

    def test_parts_too_many_or_too_few(self):
        for thing in (
            (2, (1,)), (2,), (2, (1,), (), ()), (2, (1,), (("not", 1),)), (2, (1,), (("not",),)), (2, (1,), ((),)),
            (2, (1,), (("not", 1, (1, 0), ()),)), (2, (1,), (("not", 1, 1, 0),)), (2, (1,), ("not", 1, (1, 0))),
            (2, (1,), (None,)), (2, (1,), None), (2, (1,), "not"), (2, (1,), ("not",)),
        ):
            with self.subTest(thing=thing):
                self.tells(False, is_half, thing)
                self.tells(False, is_table, thing)

    def test_things_of_any_kind(self):
        for thing in OTHER_KINDS:
            with self.subTest(thing=shown(thing)):
                self.same(is_half(thing), False)
                self.same(is_table(thing), False)
                self.same(is_half((2, (), (thing,))), False)
                self.same(is_half((2, (), (("or", 0, thing),))), False)

    def test_things_of_any_kind_as_parts(self):
        for thing in OTHER_KINDS:
            for held in ((thing, (), ()), (2, thing, ()), (2, (thing,), ()), (2, (), thing), (2, (), ((thing, 0, (1,)),)),
                         (2, (), (("or", thing, (1,)),)), (2, (), (("or", 0, (thing,)),))):
                with self.subTest(thing=shown(thing)):
                    self.assertIs(type(is_half(held)), bool)
                    self.assertIs(type(is_table(held)), bool)


if __name__ == "__main__":
    unittest.main()
