import unittest

from tests.helper import OTHER_KINDS, GradeCase, shown
from truthgrades.kinds import is_letter, is_name, is_whole


class Kinds(GradeCase):
    def test_whole_numbers(self):
        for number in (0, 1, -1, 9, 10 ** 100, -10 ** 100):
            self.tells(True, is_whole, number)
        for thing in (True, False, None, 1.0, "1", (), [1], 1j):
            self.tells(False, is_whole, thing)

    def test_letters(self):
        for letter in "abcdefghijklmnopqrstuvwxyz":
            self.tells(True, is_letter, letter)
        for thing in ("", "pq", "P", "1", " ", "`", "{", "_", "\u00e9", "\u00df", "p\n", ("p",), ["p"], b"p"):
            self.tells(False, is_letter, thing)

    def test_names(self):
        for name in ("or", "az", "and", "false", "grades", "abcdefgh", "zzzzzzzz"):
            self.tells(True, is_name, name)
        for thing in ("", "p", "abcdefghi", "And", "aN", "a1", "a b", " or", "or ", "or\n", "o_r", "\u00e9t\u00e9",
                      "`a", "a{", ("or",), ["o", "r"], b"or"):
            self.tells(False, is_name, thing)

    def test_things_of_any_kind(self):
        for thing in OTHER_KINDS:
            with self.subTest(thing=shown(thing)):
                self.same(is_letter(thing), False)
                self.same(is_name(thing), False)
                self.same(is_whole(thing), type(thing) is int)


if __name__ == "__main__":
    unittest.main()
