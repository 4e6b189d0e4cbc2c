import unittest

from tests.helper import GradeCase, Mixer, joined, nested, plain_grade, plain_gradings, plain_letters
from tests.test_possible import plain_possible
from truthgrades.errors import NoName
from truthgrades.following import follows

TWO = (2, (1,), (
    ("and", 2, (0, 0, 0, 1)), ("or", 2, (0, 1, 1, 1)), ("then", 2, (1, 1, 0, 1)), ("not", 1, (1, 0)), ("false", 0, (0,)),
    ("true", 0, (1,)),
))
# Three grades: not p is 0 but where p is 0.
THREE = (3, (2,), (
    ("and", 2, (0, 0, 0, 0, 1, 1, 0, 1, 2)), ("or", 2, (0, 1, 2, 1, 1, 2, 2, 2, 2)),
    ("then", 2, (2, 2, 2, 0, 2, 2, 0, 1, 2)), ("not", 1, (2, 0, 0)), ("false", 0, (0,)),
))
NINE = (9, (8,), (
    ("and", 2, tuple(min(x, y) for x in range(9) for y in range(9))),
    ("or", 2, tuple(max(x, y) for x in range(9) for y in range(9))),
    ("then", 2, tuple(8 if x <= y else y for x in range(9) for y in range(9))),
    ("not", 1, tuple(8 - x for x in range(9))),
))


def letters_of_question(premises, saying):
    return sorted(set().union(*[plain_letters(one) for one in list(premises) + [saying]]))


def bars(table, premises, saying, grading):
    """Whether a grading bars it, by plain gradings."""
    wished = all(plain_grade(table, premise, grading) in table[1] for premise in premises)
    return wished and plain_grade(table, saying, grading) not in table[1]


def plainly_follows(table, premises, saying):
    letters = letters_of_question(premises, saying)
    return not any(bars(table, premises, saying, grading) for grading in plain_gradings(table[0], letters))


def shows(table, premises, saying, tree, sets):
    """Whether a tree shows it by sets, from the words of the document alone."""
    if type(tree) is not tuple:
        return False
    if tree == ("closed",):
        wished = set(table[1])
        if any(not plain_possible(table, premise, sets) & wished for premise in premises):
            return True
        return plain_possible(table, saying, sets) <= wished
    if len(tree) != 3 or tree[0] != "split" or type(tree[2]) is not tuple or len(tree[2]) != table[0]:
        return False
    return all(shows(table, premises, saying, inner, {**sets, tree[1]: (one,)}) for one, inner in enumerate(tree[2]))


class Follows(GradeCase):
    def question(self, table, premises, saying):
        """Asks, and sees to it that the answer is right; tells its word."""
        told = self.ask(follows, table, premises, saying)
        self.assertIs(type(told), tuple)
        self.assertEqual(len(told), 2)
        if plainly_follows(table, premises, saying):
            self.assertEqual(told[0], "follows", (table, premises, saying))
            self.assertTrue(shows(table, premises, saying, told[1], {}), (table, premises, saying, told))
        else:
            self.assertEqual(told[0], "barred", (table, premises, saying))
            self.assertIs(type(told[1]), dict)
            self.assertEqual(sorted(told[1]), letters_of_question(premises, saying))
            self.assertTrue(all(type(value) is int and 0 <= value < table[0] for value in told[1].values()))
            self.assertTrue(bars(table, premises, saying, told[1]), (table, premises, saying, told))
        return told[0]

    def follow(self, table, premises, saying):
        self.assertEqual(self.question(table, premises, saying), "follows")

    def is_barred(self, table, premises, saying):
        self.assertEqual(self.question(table, premises, saying), "barred")

    def test_two_grades(self):
        self.follow(TWO, ["p", ("then", "p", "q")], "q")
        self.is_barred(TWO, ["q", ("then", "p", "q")], "p")
        self.follow(TWO, [], ("or", "p", ("not", "p")))
        self.follow(TWO, ["p", ("not", "p")], "q")
        self.follow(TWO, [], ("then", ("then", ("then", "p", "q"), "p"), "p"))
        self.is_barred(TWO, ["p"], ("and", "p", "q"))
        self.follow(TWO, [("and", "p", "q")], ("and", "q", "p"))

    def test_three_grades(self):
        self.follow(THREE, ["p", ("then", "p", "q")], "q")
        self.is_barred(THREE, [], ("or", "p", ("not", "p")))
        self.follow(THREE, [], ("not", ("not", ("or", "p", ("not", "p")))))
        self.is_barred(THREE, [("not", ("not", "p"))], "p")
        self.follow(THREE, ["p"], ("not", ("not", "p")))
        self.follow(THREE, ["p", ("not", "p")], "q")
        # With two wished grades more follows.
        self.follow((3, (1, 2), THREE[2]), [("not", ("not", "p"))], "p")

    def test_the_one_grading_that_bars(self):
        self.tells(("barred", {"p": 1}), follows, THREE, [("not", ("not", "p"))], "p")
        self.tells(("barred", {"p": 0, "q": 1}), follows, TWO, ["q", ("then", "p", "q")], "p")
        self.tells(("barred", {}), follows, TWO, [], ("false",))

    def test_trees_by_hand(self):
        closed = ("closed",)
        self.tells(("follows", closed), follows, TWO, [], ("true",))
        self.tells(("follows", closed), follows, TWO, [("false",)], "p")
        told = follows(TWO, [], ("or", "p", ("not", "p")))
        self.same(told, ("follows", ("split", "p", (closed, closed))))
        told = follows(TWO, ["p"], "p")
        self.same(told, ("follows", ("split", "p", (closed, closed))))

    def test_no_premises(self):
        for table in (TWO, THREE):
            self.is_barred(table, [], "p")
            self.follow(table, [], ("then", "p", "p"))
            self.follow(table, [], ("then", ("and", "p", "q"), "p"))

    def test_no_letters(self):
        self.follow(TWO, [], ("not", ("false",)))
        self.is_barred(TWO, [], ("false",))
        self.follow(TWO, [("false",)], ("false",))
        self.is_barred(TWO, [("true",), ("not", ("false",))], ("and", ("true",), ("false",)))

    def test_letters_of_premises_and_saying_alone(self):
        self.is_barred(TWO, ["a"], "z")
        self.is_barred(TWO, ["z"], "a")
        self.is_barred(TWO, [("or", "b", "c")], ("false",))
        self.follow(TWO, ["a", "b", ("not", "a")], ("false",))
        self.is_barred(TWO, ["p", "q"], ("and", "r", ("true",)))

    def test_all_or_no_grades_wished(self):
        for many in range(1, 10):
            every, none = (many, tuple(range(many)), ()), (many, (), ())
            self.tells(("follows", ("closed",)), follows, every, [], "p")
            self.tells(("follows", ("closed",)), follows, every, ["q"], "p")
            self.tells(("follows", ("closed",)), follows, none, ["q"], "p")
            self.is_barred(none, [], "p")

    def test_one_grade(self):
        shapes = (("no", 0, (0,)), ("not", 1, (0,)), ("and", 2, (0,)))
        self.follow((1, (0,), shapes), [], ("and", "p", ("not", "q")))
        self.is_barred((1, (), shapes), [], ("and", "p", ("not", "q")))
        self.follow((1, (), shapes), ["p"], "q")

    def test_no_connective(self):
        for many in (1, 2, 9):
            table = (many, (many - 1,), ())
            self.follow(table, ["p"], "p")
            self.follow(table, ["p", "q", "r"], "q")
            self.assertEqual(self.question(table, ["p", "q"], "r"), "follows" if many == 1 else "barred")

    def test_nine_grades_and_three_letters(self):
        self.follow(NINE, [("then", "p", "q"), ("then", "q", "r")], ("then", "p", "r"))
        self.is_barred(NINE, [("then", "p", "r"), ("then", "q", "r")], ("then", "p", "q"))
        self.follow(NINE, [("or", "p", ("or", "q", "r")), ("then", "p", "r"), ("then", "q", "r")], "r")
        self.follow(NINE, [("and", "p", "q")], ("or", "q", "r"))

    def test_four_letters(self):
        premises = [("then", "p", "q"), ("then", "q", "r"), ("then", "r", "s")]
        for table in (TWO, THREE):
            self.follow(table, premises, ("then", "p", "s"))
            self.is_barred(table, premises, ("then", "s", "p"))
        five = (5, (4,), (("then", 2, tuple(4 if x <= y else y for x in range(5) for y in range(5))),))
        self.follow(five, premises, ("then", "p", "s"))
        self.is_barred(five, premises[:2], ("then", "p", "s"))

    def test_forty_words_and_twenty_tuples(self):
        twenty = joined("pqrpqrpqrpqrpqrpqrpq")
        self.follow(TWO, [("not", twenty)], ("not", joined("qprqprqprqprqprqprqp")))
        self.is_barred(TWO, [("not", twenty)], ("not", ("and", "p", "q")))
        self.follow(TWO, [nested(20)], "p")
        self.follow(THREE, [nested(19)], nested(19))
        self.is_barred(THREE, [nested(20)], "p")

    def test_many_premises(self):
        self.follow(TWO, ["p"] * 30 + [("then", "p", "q")], "q")
        self.is_barred(TWO, ["p"] * 30, "q")
        self.is_barred(TWO, [("or", one, other) for one in "pqr" for other in "pqr" if one != other], ("and", "p", "q"))

    def test_small_tables_of_one_connective(self):
        # Each connective of two places over two grades, with each set of wished grades.
        for number in range(16):
            cells = tuple(number >> place & 1 for place in range(4))
            for wished in ((), (0,), (1,), (0, 1)):
                table = (2, wished, (("op", 2, cells),))
                sayings = ["p", ("op", "p", "q"), ("op", "q", "p"), ("op", "p", "p"), ("op", ("op", "p", "q"), "q")]
                for premise in sayings:
                    for saying in sayings:
                        self.question(table, [premise], saying)
                        self.question(table, [], saying)

    def test_as_plain_gradings_say(self):
        mixer = Mixer(5)
        words = []
        for step in range(500):
            table = mixer.table(1 + step % 5)
            letters = "pqrs"[:1 + mixer.number(4)]
            premises = [mixer.saying(table, letters, 3) for number in range(mixer.number(4))]
            words.append(self.question(table, premises, mixer.saying(table, letters, 3)))
        self.assertGreater(words.count("follows"), 100)
        self.assertGreater(words.count("barred"), 100)


class FollowsRefusals(GradeCase):
    def no_name(self, name, premises, saying):
        told = self.refuses(NoName, follows, TWO, premises, saying)
        self.same(vars(told), {"name": name})

    def test_names(self):
        self.no_name("nor", [], ("nor", "p", "q"))
        self.no_name("and", [], ("and", "p"))
        self.no_name("not", ["p"], ("not",))
        self.no_name("nor", [("nor", "p")], "p")

    def test_the_premises_first(self):
        self.no_name("cc", ["p", ("and", "p", ("cc",)), ("bb",)], ("aa",))
        self.no_name("bb", ["p", ("not", "p"), ("bb",)], ("aa",))
        self.no_name("aa", ["p", ("not", "p")], ("not", ("aa",)))
        self.no_name("zz", [("and", ("not", ("zz",)), ("aa",))], "p")

    def test_names_are_seen_though_the_answer_is_clear_without(self):
        self.no_name("aa", [("false",)], ("aa",))
        self.no_name("aa", [("false",), ("aa",)], "p")
        self.no_name("aa", [], ("or", ("true",), ("aa",)))


class Turning(GradeCase):
    """What follows is the same in a table turned, and follows in a table's part, too."""

    def turned(self, table, order):
        back = {new: old for old, new in enumerate(order)}
        many = table[0]
        connectives = []
        for name, places, cells in table[2]:
            turned = []
            for place in range(many ** places):
                digits = [place // many ** power % many for power in reversed(range(places))]
                old = sum(back[digit] * many ** power for power, digit in enumerate(reversed(digits)))
                turned.append(order[cells[old]])
            connectives.append((name, places, tuple(turned)))
        return (many, tuple(sorted(order[one] for one in table[1])), tuple(connectives))

    def test_turned(self):
        mixer = Mixer(6)
        for step in range(150):
            table = mixer.table(2 + step % 4)
            order = sorted(range(table[0]), key=lambda one: mixer.number(1000))
            premises = [mixer.saying(table, "pqr", 2) for number in range(2)]
            saying = mixer.saying(table, "pqr", 2)
            told = self.ask(follows, table, premises, saying)
            other = self.ask(follows, self.turned(table, order), premises, saying)
            self.assertEqual(told[0], other[0])
            if told[0] == "barred":
                grading = {letter: order[one] for letter, one in told[1].items()}
                self.assertTrue(bars(self.turned(table, order), premises, saying, grading))

    def test_part(self):
        # The grades 0 and 8 of nine, and 0 and 2 of three, are kept: they are the two grades of the other tables.
        shapes = (("and", 2, (0, 0, 0, 1)), ("or", 2, (0, 1, 1, 1)), ("then", 2, (1, 1, 0, 1)), ("not", 1, (1, 0)))
        part = (2, (1,), shapes)
        mixer = Mixer(7)
        words = []
        for step in range(150):
            premises = [mixer.saying(part, "pq", 2) for number in range(mixer.number(3))]
            saying = mixer.saying(part, "pq", 3)
            for table in (THREE, NINE):
                told = follows(table, premises, saying)[0]
                words.append(told)
                if told == "follows":
                    self.assertEqual(follows(part, premises, saying)[0], "follows")
        self.assertGreater(words.count("follows"), 50)


class Told(GradeCase):
    def test_a_told_grading_is_the_askers_own(self):
        premises = ["p"]
        told = follows(TWO, premises, "q")
        told[1]["p"] = 9
        told[1].clear()
        self.tells(("barred", {"p": 1, "q": 0}), follows, TWO, premises, "q")
        self.assertEqual(premises, ["p"])
        self.assertIsNot(follows(TWO, [], ("false",))[1], follows(TWO, [], ("false",))[1])

    def test_what_was_told_stays(self):
        premises = [("then", "p", "q"), "p"]
        told = follows(TWO, premises, "q")
        before = repr(told)
        premises.clear()
        self.assertEqual(repr(told), before)
        self.assertEqual(follows(TWO, premises, "q")[0], "barred")

    def test_premises_of_any_row(self):
        self.same(follows(TWO, ("p", ("then", "p", "q")), "q"), follows(TWO, ["p", ("then", "p", "q")], "q"))


if __name__ == "__main__":
    unittest.main()
