import unittest

from tests.helper import GradeCase, Mixer, joined, nested, plain_grade, plain_gradings
from truthgrades.errors import NoLetter, NoName
from truthgrades.gradings import grade, gradings

# Three grades; then is not the same both ways, and each name has one number of places.
THREE = (3, (2,), (
    ("and", 2, (0, 0, 0, 0, 1, 1, 0, 1, 2)),
    ("then", 2, (2, 2, 2, 0, 2, 2, 0, 1, 2)),
    ("not", 1, (2, 0, 0)),
    ("half", 0, (1,)),
    ("false", 0, (0,)),
))


class Grade(GradeCase):
    def test_letters(self):
        self.tells(0, grade, THREE, "p", {"p": 0})
        self.tells(2, grade, THREE, "q", {"p": 0, "q": 2})
        self.tells(1, grade, (3, (), ()), "p", {"p": 1})

    def test_no_places(self):
        self.tells(1, grade, THREE, ("half",), {})
        self.tells(0, grade, THREE, ("false",), {"p": 2})

    def test_one_place(self):
        for given, due in enumerate((2, 0, 0)):
            self.tells(due, grade, THREE, ("not", "p"), {"p": given})

    def test_two_places(self):
        # By hand: from 1 to 0 leads 0, from 0 to 1 leads 2; from 2 to 1 leads 1.
        self.tells(0, grade, THREE, ("then", "p", "q"), {"p": 1, "q": 0})
        self.tells(2, grade, THREE, ("then", "p", "q"), {"p": 0, "q": 1})
        self.tells(2, grade, THREE, ("then", "q", "p"), {"p": 1, "q": 0})
        self.tells(1, grade, THREE, ("then", "p", "q"), {"p": 2, "q": 1})
        self.tells(2, grade, THREE, ("then", "p", "p"), {"p": 1})

    def test_parts_within_parts(self):
        self.tells(1, grade, THREE, ("and", ("not", ("not", "p")), ("half",)), {"p": 1})
        self.tells(0, grade, THREE, ("and", ("not", "p"), ("half",)), {"p": 1})
        self.tells(0, grade, THREE, ("then", ("then", ("not", "q"), "p"), ("and", "p", "q")), {"p": 1, "q": 0})

    def test_letters_beyond_those_of_the_saying(self):
        self.tells(0, grade, THREE, ("not", "p"), {"p": 2, "q": 1, "z": 0})

    def test_one_grade(self):
        table = (1, (0,), (("no", 0, (0,)), ("not", 1, (0,)), ("and", 2, (0,))))
        self.tells(0, grade, table, ("and", ("not", "p"), ("no",)), {"p": 0})

    def test_nine_grades_and_eight_connectives(self):
        names = ("aa", "bb", "cc", "dd", "ee", "ff", "gg", "hh")
        connectives = tuple(
            (name, 2, tuple((x + number * y) % 9 for x in range(9) for y in range(9)))
            for number, name in enumerate(names)
        )
        for number, name in enumerate(names):
            for x in range(9):
                for y in range(9):
                    self.tells((x + number * y) % 9, grade, (9, (), connectives), (name, "p", "q"), {"p": x, "q": y})

    def test_forty_words_and_twenty_tuples(self):
        table = (9, (), (("and", 2, tuple((x + y) % 9 for x in range(9) for y in range(9))),
                         ("not", 1, tuple((x + 1) % 9 for x in range(9)))))
        # Twenty letters of grade 1, and one more.
        self.tells((20 + 1) % 9, grade, table, ("not", joined("p" * 20)), {"p": 1})
        self.tells((20 + 5) % 9, grade, table, nested(20), {"p": 5})
        self.tells((90 + 5) % 9, grade, table, nested(90), {"p": 5})

    def test_as_plainly(self):
        mixer = Mixer(2)
        for step in range(300):
            table = mixer.table(1 + step % 9)
            saying = mixer.saying(table, "pqr", 5)
            grading = {letter: mixer.number(table[0]) for letter in "pqrs"}
            self.tells(plain_grade(table, saying, grading), grade, table, saying, grading)


class GradeRefusals(GradeCase):
    def no_name(self, name, saying, grading):
        told = self.refuses(NoName, grade, THREE, saying, grading)
        self.same(vars(told), {"name": name})

    def no_letter(self, letter, saying, grading):
        told = self.refuses(NoLetter, grade, THREE, saying, grading)
        self.same(vars(told), {"letter": letter})

    def test_names_that_are_not_there(self):
        self.no_name("nor", ("nor", "p", "q"), {"p": 0, "q": 0})
        self.no_name("nor", ("nor",), {})
        self.no_name("nor", ("not", ("not", ("nor", "p"))), {"p": 0})
        self.assertRaises(NoName, grade, (3, (), ()), ("not", "p"), {"p": 0})

    def test_names_with_other_numbers_of_places(self):
        grading = {"p": 0, "q": 0}
        for saying in (("and",), ("and", "p"), ("not",), ("not", "p", "q"), ("half", "p"), ("half", "p", "q")):
            self.no_name(saying[0], saying, grading)
            self.no_name(saying[0], ("and", "q", saying), grading)

    def test_the_first_name_from_the_left_as_written(self):
        self.no_name("aa", ("aa", ("bb",), ("cc",)), {})
        self.no_name("bb", ("and", ("bb",), ("aa",)), {})
        self.no_name("zz", ("and", ("not", ("zz",)), ("aa",)), {})
        self.no_name("zz", ("then", ("and", "p", ("zz", ("aa",))), ("aa",)), {"p": 0})
        self.no_name("not", ("and", ("not", "p", ("aa",)), ("aa",)), {"p": 0})
        self.no_name("aa", ("and", ("half",), ("not", ("aa", ("bb",)))), {})

    def test_names_go_ahead_of_letters(self):
        self.no_name("aa", ("and", "p", ("aa",)), {})
        self.no_name("aa", ("and", ("not", "p"), ("and", "q", ("aa", "r"))), {"r": 0})

    def test_letters_that_the_grading_lacks(self):
        self.no_letter("p", "p", {})
        self.no_letter("p", "p", {"q": 0})
        self.no_letter("p", ("not", ("not", "p")), {"q": 0})

    def test_the_first_letter_from_the_left(self):
        self.no_letter("q", ("and", "q", "p"), {})
        self.no_letter("p", ("and", "q", "p"), {"q": 0})
        self.no_letter("z", ("and", ("not", "z"), "a"), {})
        self.no_letter("r", ("then", ("and", "p", "r"), ("and", "a", "b")), {"p": 0})
        self.no_letter("b", ("then", ("half",), ("and", "b", "a")), {})

    def test_a_refusal_changes_nothing(self):
        self.no_letter("p", ("and", "q", "p"), {"q": 0})
        self.tells(0, grade, THREE, ("and", "q", "p"), {"q": 0, "p": 2})


class Gradings(GradeCase):
    def test_no_letters(self):
        for many in range(1, 10):
            self.tells([{}], gradings, many, [])

    def test_all_gradings_each_once(self):
        for many, letters in ((1, "p"), (1, "pqrs"), (2, "p"), (2, "qp"), (3, "pqr"), (9, "p"), (9, "zap"), (5, "abcd")):
            told = self.ask(gradings, many, list(letters))
            self.assertIs(type(told), list)
            self.assertEqual(len(told), many ** len(letters))
            shown = sorted(sorted(grading.items()) for grading in told)
            self.assertEqual(shown, sorted(sorted(grading.items()) for grading in plain_gradings(many, letters)))
            for grading in told:
                self.assertIs(type(grading), dict)
                self.assertTrue(all(type(value) is int for value in grading.values()))

    def test_each_told_thing_is_the_askers_own(self):
        letters = ["p", "q"]
        told = gradings(2, letters)
        told[0]["p"] = 7
        told[0]["z"] = 7
        self.assertEqual(sum("z" in grading for grading in told), 1)
        self.assertEqual(sum(7 in grading.values() for grading in told), 1)
        told.clear()
        self.assertEqual(letters, ["p", "q"])
        again = gradings(2, letters)
        letters.append("r")
        self.assertEqual(sorted(sorted(grading.items()) for grading in again),
                         [[("p", x), ("q", y)] for x in (0, 1) for y in (0, 1)])
        self.assertIsNot(gradings(1, [])[0], gradings(1, [])[0])


if __name__ == "__main__":
    unittest.main()
