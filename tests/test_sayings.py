import unittest

from tests.helper import OTHER_KINDS, GradeCase, joined, nested, shown
from truthgrades.sayings import is_saying, letters_of, letters_of_all, needed_lines, said_by, words_of, written_parts


class IsSaying(GradeCase):
    def test_sayings(self):
        for saying in (
            "p", "a", "z", ("false",), ("not", "p"), ("and", "p", "q"), ("and", "p", "p"), ("abcdefgh", "p"), ("or",),
            ("and", "p", ("not", "q")), ("then", ("false",), ("not", ("true",))), ("or", ("or", "p"), ("or",)),
            ("and", ("or", "p", "q"), ("or", "r", ("true",))),
        ):
            with self.subTest(saying=saying):
                self.tells(True, is_saying, saying)

    def test_forty_words(self):
        # Twenty letters joined have 39 letters and names.
        twenty = joined("pqrstpqrstpqrstpqrst")
        self.tells(39, words_of, twenty)
        self.tells(True, is_saying, twenty)
        self.tells(True, is_saying, ("not", twenty))
        self.tells(False, is_saying, ("not", ("not", twenty)))
        self.tells(False, is_saying, ("and", twenty, "p"))
        self.tells(False, is_saying, ("and", "p", twenty))
        self.tells(True, is_saying, ("and", joined("pqrstpqrstpqrstpqrs"), ("true",)))
        self.tells(True, is_saying, ("and", ("not", joined("pqrstpqrstpqrstpqrs")), ("true",)))
        self.tells(False, is_saying, ("and", ("not", joined("pqrstpqrstpqrstpqrs")), ("not", "p")))

    def test_twenty_tuples_within_one_another(self):
        self.tells(True, is_saying, nested(19))
        self.tells(True, is_saying, nested(20))
        self.tells(False, is_saying, nested(21))
        self.tells(True, is_saying, nested(19, ("true",)))
        self.tells(False, is_saying, nested(20, ("true",)))
        self.tells(True, is_saying, ("and", nested(18), nested(18)))
        self.tells(True, is_saying, ("and", "p", nested(19)))
        self.tells(False, is_saying, ("and", "p", nested(20)))
        self.tells(False, is_saying, ("and", nested(20), "p"))
        self.tells(False, is_saying, nested(90))

    def test_one_tuple_in_many_places(self):
        wide = "p"
        for step in range(90):
            wide = ("and", wide, wide)
        self.assertIs(is_saying(wide), False)
        four = ("and", ("not", "p"), "q")
        self.tells(True, is_saying, ("and", four, four))

    def test_other_things(self):
        for thing in (
            "", "pq", "and", "false", "P", "1", " ", "p ", "\n", "\u00e9", (), ("p",), ("p", "q"), ("",), ("abcdefghi",),
            ("And", "p"), ("an d", "p"), ("no1", "p"), ("not\n", "p"), ("and", "p", "q", "r"), ("not", "P"), ("not", ""),
            ("not", "pq"), ("not", None), ("not", 0), ("not", ()), ("and", "p", ("q",)), ("and", "pq"), (("not",), "p"),
            (None, "p"), (("not", "p"),), (1,), ("not", True),
        ):
            with self.subTest(thing=thing):
                self.tells(False, is_saying, thing)

    def test_lists_for_tuples(self):
        for thing in (["p"], ["not", "p"], ("not", ["p"]), ("not", ["not", "p"]), (["not"], "p"), ("and", "p", ["true"]),
                      {"not": "p"}, ("not", {"p": 1})):
            with self.subTest(thing=thing):
                self.tells(False, is_saying, thing)

    def test_things_of_any_kind(self):
        for thing in OTHER_KINDS:
            with self.subTest(thing=shown(thing)):
                self.same(is_saying(thing), False)
                self.same(is_saying((thing, "p")), False)
                self.same(is_saying(("not", thing)), False)
                self.same(is_saying(("and", "p", ("or", thing, "q"))), False)


class Words(GradeCase):
    def test_letters(self):
        self.tells(["p"], letters_of, "p")
        self.tells([], letters_of, ("false",))
        self.tells(["p"], letters_of, ("and", "p", "p"))
        self.tells(["a", "m", "z"], letters_of, ("and", "z", ("or", ("not", "m"), ("and", "a", "z"))))
        self.tells(["q"], letters_of, ("and", ("true",), ("not", "q")))
        self.tells(list("abcdefghij"), letters_of, joined("jihgfedcbajihgfedcba"))
        self.tells(["p"], letters_of, nested(20))

    def test_words(self):
        self.tells(1, words_of, "p")
        self.tells(1, words_of, ("false",))
        self.tells(2, words_of, ("not", "p"))
        self.tells(3, words_of, ("and", "p", "p"))
        self.tells(4, words_of, ("and", "p", ("not", "q")))
        self.tells(5, words_of, ("then", ("not", "p"), ("or", ("true",))))
        self.tells(21, words_of, nested(20))
        self.tells(40, words_of, ("not", joined("pqrstpqrstpqrstpqrst")))

    def test_letters_of_several(self):
        self.tells([], letters_of_all, [])
        self.tells([], letters_of_all, [("true",), ("not", ("true",))])
        self.tells(["a", "p", "q"], letters_of_all, ["q", ("and", "p", "q"), ("not", ("not", "a"))])

    def test_parts_from_the_left(self):
        self.tells(["p"], written_parts, "p")
        self.tells([("true",)], written_parts, ("true",))
        left, right = ("or", "q", "p"), ("not", ("true",))
        whole = ("and", left, right)
        self.tells([whole, left, "q", "p", right, ("true",)], written_parts, whole)

    def test_somewhat_beyond_the_bounds(self):
        self.tells(["p"], letters_of, nested(90))
        self.tells(91, words_of, nested(90))
        self.tells(99, words_of, joined("pqrst" * 10))
        self.tells(list("pqrst"), letters_of, joined("tsrqp" * 10))

    def test_a_told_list_is_the_askers_own(self):
        saying = ("and", "q", "p")
        told = letters_of(saying)
        told.append("z")
        told[0] = "y"
        self.tells(["p", "q"], letters_of, saying)
        self.assertIsNot(letters_of(saying), letters_of(saying))


class Lines(GradeCase):
    def test_one_line(self):
        self.tells(1, said_by, ("p",))
        self.tells(1, said_by, (("false",),))

    def test_several_lines(self):
        self.tells(2, said_by, ("p", ("not", 0)))
        self.tells(3, said_by, ("p", "q", ("and", 0, 1)))
        self.tells(3, said_by, ("p", ("and", 0, 0)))
        self.tells(4, said_by, ("p", "q", ("not", 1), ("and", 0, 2)))
        self.tells(6, said_by, ("p", ("not", 0), ("true",), ("or", 2, 1), ("and", 3, 2)))

    def test_the_last_line_alone_is_said(self):
        self.tells(1, said_by, ("p", ("not", 0), "q"))
        self.tells(1, said_by, ("p", "p", "p"))
        self.tells(2, said_by, ("p", ("and", 0, 0), ("and", 1, 1), ("not", 0)))

    def test_what_is_said_may_be_much_longer(self):
        doubling = ("p",) + tuple(("and", number, number) for number in range(10))
        self.tells(2047, said_by, doubling)
        doubling = ("p",) + tuple(("and", number, number) for number in range(200))
        self.tells(2 ** 201 - 1, said_by, doubling)
        # Each is one longer than the two ahead of it are together.
        growing = ("p", ("true",)) + tuple(("or", number, number + 1) for number in range(6))
        self.tells(41, said_by, growing)

    def test_many_lines(self):
        self.tells(1001, said_by, ("p",) + tuple(("not", number) for number in range(1000)))

    def test_needed_lines_from_the_left(self):
        self.tells([0], needed_lines, ("p",))
        self.tells([2], needed_lines, ("p", ("not", 0), "q"))
        self.tells([3, 2, 0, 1], needed_lines, ("p", "q", ("not", 0), ("and", 2, 1)))
        self.tells([4, 1, 3, 0], needed_lines, ("p", "q", "r", ("or", 1, 0), ("and", 1, 3)))
        doubling = ("p",) + tuple(("and", number, number) for number in range(200))
        self.tells(list(range(200, -1, -1)), needed_lines, doubling)


if __name__ == "__main__":
    unittest.main()
