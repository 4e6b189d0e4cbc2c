import itertools
import unittest

from tests.helper import GradeCase, Mixer, joined, nested, plain_cell, plain_grade, plain_letters
from truthgrades.errors import NoName
from truthgrades.possible import possible

HALF = (3, (2,), (
    ("and", 2, (0, 0, 0, 0, 1, 1, 0, 1, 2)),
    ("then", 2, (2, 2, 2, 0, None, 2, 0, 1, 2)),
    ("not", 1, (2, 0, 0)),
    ("any", 1, (None, 1, 1)),
    ("low", 0, (0,)),
    ("free", 0, (None,)),
))


def plain_possible(half, saying, sets):
    """The possible grades as a set, straight from the words of the document."""
    everything = set(range(half[0]))
    if isinstance(saying, str):
        return set(sets[saying]) if saying in sets else everything
    told = set()
    for grades in itertools.product(*[plain_possible(half, part, sets) for part in saying[1:]]):
        cell = plain_cell(half, saying[0], grades)
        told |= everything if cell is None else {cell}
    return told


def all_fillings(half):
    nones = sum(cells.count(None) for name, places, cells in half[2])
    for grades in itertools.product(range(half[0]), repeat=nones):
        fill = iter(grades)
        yield half[:2] + (tuple(
            (name, places, tuple(next(fill) if cell is None else cell for cell in cells))
            for name, places, cells in half[2]
        ),)


class Possible(GradeCase):
    def test_letters(self):
        self.tells((0, 1, 2), possible, HALF, "p", {})
        self.tells((0, 1, 2), possible, HALF, "p", {"q": (1,)})
        self.tells((1,), possible, HALF, "p", {"p": (1,)})
        self.tells((0, 2), possible, HALF, "p", {"p": (0, 2), "q": ()})
        self.tells((), possible, HALF, "p", {"p": ()})
        self.tells(tuple(range(9)), possible, (9, (), ()), "p", {})
        self.tells((0,), possible, (1, (), ()), "p", {})

    def test_no_places(self):
        self.tells((0,), possible, HALF, ("low",), {})
        self.tells((0, 1, 2), possible, HALF, ("free",), {})
        self.tells((0,), possible, HALF, ("low",), {"p": ()})

    def test_one_place(self):
        self.tells((0, 2), possible, HALF, ("not", "p"), {})
        self.tells((0,), possible, HALF, ("not", "p"), {"p": (1, 2)})
        self.tells((2,), possible, HALF, ("not", "p"), {"p": (0,)})
        self.tells((), possible, HALF, ("not", "p"), {"p": ()})
        self.tells((1,), possible, HALF, ("any", "p"), {"p": (1, 2)})
        self.tells((0, 1, 2), possible, HALF, ("any", "p"), {"p": (0, 2)})

    def test_two_places(self):
        self.tells((1, 2), possible, HALF, ("and", "p", "q"), {"p": (1, 2), "q": (2,)})
        self.tells((0, 2), possible, HALF, ("then", "p", "q"), {"p": (0, 1), "q": (0,)})
        self.tells((2,), possible, HALF, ("then", "p", "q"), {"p": (0,)})
        self.tells((0, 1, 2), possible, HALF, ("then", "p", "q"), {"p": (1,), "q": (1,)})
        self.tells((0, 2), possible, HALF, ("then", "p", "q"), {"p": (1,), "q": (0, 2)})

    def test_none_possible_of_a_part(self):
        for saying in (("and", "p", "q"), ("and", "q", "p"), ("then", ("free",), "p"), ("not", ("any", ("and", "p", "p")))):
            self.tells((), possible, HALF, saying, {"p": ()})

    def test_parts_go_each_by_itself(self):
        # Both parts are the same letter, and yet each may have any grade of its set.
        self.tells((0, 1, 2), possible, HALF, ("then", "p", "p"), {"p": (1, 2)})
        two = (2, (1,), (("same", 2, (1, 0, 0, 1)),))
        self.tells((0, 1), possible, two, ("same", "p", "p"), {})

    def test_parts_within_parts(self):
        self.tells((0,), possible, HALF, ("and", ("not", "p"), ("any", "q")), {"p": (1,), "q": (1,)})
        self.tells((0, 1, 2), possible, HALF, ("and", ("free",), ("free",)), {})
        self.tells((0, 2), possible, HALF, ("not", ("free",)), {})

    def test_edges(self):
        one = (1, (), (("not", 1, (None,)), ("and", 2, (0,))))
        self.tells((0,), possible, one, ("and", ("not", "p"), "q"), {})
        self.tells((), possible, one, ("and", ("not", "p"), "q"), {"q": ()})
        many = (9, (), (("and", 2, tuple((x + y) % 9 for x in range(9) for y in range(9))),
                        ("not", 1, tuple((x + 1) % 9 for x in range(9)))))
        self.tells(tuple(range(9)), possible, many, ("not", joined("pq" * 10)), {})
        self.tells(((20 + 1) % 9,), possible, many, ("not", joined("p" * 20)), {"p": (1,)})
        self.tells((2, 7), possible, many, nested(20), {"p": (0, 5)})
        self.tells((0, 5), possible, many, nested(90), {"p": (0, 5)})

    def test_as_the_words_say(self):
        mixer = Mixer(3)
        for step in range(400):
            half = mixer.table(1 + step % 9, none_in=(0, 4, 9)[step % 3])
            saying = mixer.saying(half, "pqr", 4)
            sets = {letter: mixer.some(range(half[0])) for letter in mixer.some("pqrz")}
            self.tells(tuple(sorted(plain_possible(half, saying, sets))), possible, half, saying, sets)

    def test_each_filling_and_grading_keeps_to_it(self):
        mixer = Mixer(4)
        for step in range(60):
            half = mixer.table(1 + step % 3, (("no", 0), ("not", 1), ("and", 2)), none_in=6)
            saying = mixer.saying(half, "pq", 3)
            sets = {letter: mixer.some(range(half[0])) for letter in mixer.some("pq")}
            told = self.ask(possible, half, saying, sets)
            letters = sorted(plain_letters(saying))
            choices = [sets.get(letter, range(half[0])) for letter in letters]
            for table in itertools.islice(all_fillings(half), 81):
                for grades in itertools.product(*choices):
                    self.assertIn(plain_grade(table, saying, dict(zip(letters, grades))), told)

    def test_names(self):
        for name, saying in (
            ("nor", ("nor", "p")), ("and", ("and", "p")), ("not", ("not", "p", "p")), ("low", ("low", "p")), ("any", ("any",)),
            ("aa", ("aa", ("bb",), ("cc",))), ("bb", ("and", ("bb",), ("aa",))), ("zz", ("and", ("not", ("zz",)), ("aa",))),
            ("bb", ("and", "p", ("bb", ("aa",)))),
        ):
            for sets in ({}, {"p": ()}, {"p": (1,)}):
                told = self.refuses(NoName, possible, HALF, saying, sets)
                self.same(vars(told), {"name": name})

    def test_told_things_stay(self):
        sets = {"p": (0, 1)}
        told = possible(HALF, "p", sets)
        sets["p"] = (2,)
        self.same(told, (0, 1))
        self.tells((2,), possible, HALF, "p", sets)
        self.assertIs(type(possible(HALF, ("free",), {})), tuple)


if __name__ == "__main__":
    unittest.main()
