import copy
import unittest

from truthgrades import errors
from truthgrades.errors import (
    GradeError, NoCount, NoFraction, NoKept, NoKind, NoLetter, NoName, NoRow, NoSaying, NoTable, TooMany,
)

PLAIN = (NoFraction, NoTable, NoSaying, TooMany, NoKind, NoCount)
FIELDS = ((NoName, "name"), (NoLetter, "letter"), (NoRow, "row"), (NoKept, "name"))


class Errors(unittest.TestCase):
    def classes(self):
        return list(PLAIN) + [error for error, field in FIELDS]

    def test_base(self):
        self.assertEqual(GradeError.__bases__, (ValueError,))
        self.assertEqual(str(GradeError("words")), "words")

    def test_names(self):
        for error in self.classes() + [GradeError]:
            self.assertIs(getattr(errors, error.__name__), error)

    def test_each_under_the_base_and_none_under_another(self):
        for one in self.classes():
            self.assertTrue(issubclass(one, GradeError))
            self.assertFalse(issubclass(GradeError, one))
            for other in self.classes():
                self.assertEqual(issubclass(one, other), one is other)
            for strange in (KeyError, LookupError, TypeError, ArithmeticError, UnicodeError):
                self.assertFalse(issubclass(one, strange))

    def test_without_field(self):
        for error in PLAIN:
            with self.assertRaises(error):
                raise error("words")
            with self.assertRaises(GradeError):
                raise error()

    def test_with_field(self):
        for error, field in FIELDS:
            made = error("then")
            self.assertEqual(vars(made), {field: "then"})
            self.assertEqual(vars(copy.copy(made)), {field: "then"})
            self.assertEqual(vars(error(**{field: "or"})), {field: "or"})
            with self.assertRaises(TypeError):
                error()

    def test_field_is_the_very_thing(self):
        for thing in (None, [1], 10 ** 5000, {"p": 1}):
            made = NoRow(thing)
            self.assertIs(made.row, thing)
            self.assertIsInstance(str(made), str)


if __name__ == "__main__":
    unittest.main()
