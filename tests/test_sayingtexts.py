import itertools
import unittest

from tests.helper import OTHER_KINDS, GradeCase, Mixer, joined, nested, shown
from truthgrades.errors import NoSaying
from truthgrades.sayings import is_saying
from truthgrades.sayingtexts import read_saying, show_saying

# Sayings and their texts, written by hand.
BOTH = (
    ("p", "p"),
    ("a", "a"),
    ("z", "z"),
    (("false",), "false"),
    (("or",), "or"),
    (("abcdefgh",), "abcdefgh"),
    (("not", "p"), "not(p)"),
    (("and", "p", "q"), "and(p, q)"),
    (("and", "q", "p"), "and(q, p)"),
    (("and", "p", "p"), "and(p, p)"),
    (("and", "p", ("not", "q")), "and(p, not(q))"),
    (("and", ("not", "p"), "q"), "and(not(p), q)"),
    (("not", ("true",)), "not(true)"),
    (("then", ("false",), ("true",)), "then(false, true)"),
    (("or", ("or", "p"), ("or",)), "or(or(p), or)"),
    (("abcdefgh", ("zz", "a", "z")), "abcdefgh(zz(a, z))"),
    (("and", ("or", "p", "q"), ("or", "r", ("true",))), "and(or(p, q), or(r, true))"),
    (("not", ("not", ("not", "p"))), "not(not(not(p)))"),
)

GOOD = "and(or(p, no), not(q))"

# Each is a saying's text but for one thing.
WRONG = (
    "", " ", "\n", "(", ")", ",", ", ", "()", "(p)", "((p))", "(not p)", "p()", "p(q)", "p(q, r)", "false()", "false( )",
    "not(", "not)", "not()", "not( )", "not(,)", "not(, )", "not(p", "notp)", "not(p))", "not((p))", "not[p]", "not{p}",
    # Letters and names with a sign that is none, too short or too long.
    "P", "1", "pP", "Not(p)", "noT(p)", "no1(p)", "no_t(p)", "no-t(p)", "no t(p)", "not(P)", "not(1)", "not(p1)",
    "abcdefghi", "abcdefghi(p)", "not(abcdefghi)", "\u00e9", "\u00e9t\u00e9(p)", "not(\u00e9)", "p'", '"p"', "~p", "p & q",
    # A blank too many or too few.
    " p", "p ", "not (p)", " not(p)", "not(p) ", "not( p)", "not(p )", "and(p,q)", "and(p,  q)", "and(p , q)", "and( p, q)",
    "and(p, q )", "and(p q)", "and (p, q)", "and(p, q) ", "and(not (p), q)", "and(p, not(q ))",
    # Parts too many or too few.
    "and(p, q, r)", "and(p, q, r, s)", "and(p, )", "and(, p)", "and(, )", "and(p,)", "and(p, q, )", "and(p, , q)", "p, q",
    "false, true", "and(p, q), r", "and(p, q)r", "and(p, q)(r)", "not(p)(q)", "not(p)not(q)", "not(p) not(q)", "and(p, q(r))",
    "and(p(q), r)", "p not(q)", "and(p; q)", "and(p. q)", "and(p, q", "and(p, not(q)", "and(p, not(q)))", "and(not(p, q)",
    # A line's end or another white sign.
    "p\n", "\np", "not(p)\n", "\nnot(p)", "not\n(p)", "not(\np)", "not(p\n)", "and(p,\nq)", "and(p, \nq)", "and(p, q)\n", "no\nt(p)",
    "p\t", "and(p,\tq)", "p\r", "p\n\n", "p\nq",
    # Written otherwise.
    "('not', 'p')", "['not', 'p']", "not p", "p and q", "None", "True",
)


def small_texts(longest):
    """All texts of sayings of the letter o and names of o alone, up to a length."""
    texts = {"o" * length for length in range(1, 9)}
    names = [text for text in texts if len(text) > 1]
    while True:
        wider = set(texts)
        for name in names:
            wider.update(name + "(" + one + ")" for one in texts)
            wider.update(name + "(" + one + ", " + other + ")" for one in texts for other in texts)
        wider = {text for text in wider if len(text) <= longest}
        if wider == texts:
            return texts
        texts = wider


class SayingTexts(GradeCase):
    def test_both_ways(self):
        for saying, text in BOTH:
            with self.subTest(text=text):
                self.tells(text, show_saying, saying)
                self.tells(saying, read_saying, text)

    def test_there_and_back(self):
        mixer = Mixer(1)
        table = mixer.table(2)
        for step in range(300):
            saying = mixer.saying(table, "pqrst", 4)
            self.tells(saying, read_saying, self.ask(show_saying, saying))

    def test_other_texts_are_refused(self):
        self.ask(read_saying, GOOD)
        for text in WRONG:
            with self.subTest(text=text):
                self.refuses(NoSaying, read_saying, text)

    def test_a_text_with_one_sign_lost_added_or_changed(self):
        for place in range(len(GOOD) + 1):
            for sign in ["", "\n"] + [chr(code) for code in range(ord(" "), ord("~") + 1)]:
                for behind in (GOOD[place:], GOOD[place + 1:]):
                    self.reads_itself_or_refuses(GOOD[:place] + sign + behind)

    def reads_itself_or_refuses(self, text):
        try:
            saying = read_saying(text)
        except NoSaying:
            return
        self.assertTrue(is_saying(saying), text)
        self.assertEqual(show_saying(saying), text)

    def test_all_texts_of_few_signs(self):
        due = small_texts(8)
        self.assertIn("oo(o, o)", due)
        for length in range(9):
            for signs in itertools.product("o(), ", repeat=length):
                text = "".join(signs)
                try:
                    taken = show_saying(read_saying(text)) == text
                except NoSaying:
                    taken = False
                self.assertEqual(taken, text in due, text)

    def test_forty_words(self):
        twenty = joined("pqrstpqrstpqrstpqrst")
        for saying in (twenty, ("not", twenty), ("and", ("not", joined("pqrstpqrstpqrstpqrs")), ("true",))):
            self.tells(saying, read_saying, self.ask(show_saying, saying))
        for saying in (("not", ("not", twenty)), ("and", twenty, "p"), ("and", ("true",), twenty), joined("pqrst" * 10)):
            self.refuses(NoSaying, read_saying, show_saying(saying))

    def test_twenty_tuples_within_one_another(self):
        text = "not(" * 20 + "p" + ")" * 20
        self.tells(text, show_saying, nested(20))
        self.tells(nested(20), read_saying, text)
        self.refuses(NoSaying, read_saying, "not(" * 21 + "p" + ")" * 21)
        self.tells(nested(19, ("true",)), read_saying, "not(" * 19 + "true" + ")" * 19)
        self.refuses(NoSaying, read_saying, "not(" * 20 + "true" + ")" * 20)
        self.tells(("and", "p", nested(19)), read_saying, "and(p, " + "not(" * 19 + "p" + ")" * 20)
        self.refuses(NoSaying, read_saying, "and(p, " + "not(" * 20 + "p" + ")" * 21)
        self.refuses(NoSaying, read_saying, "and(" + "not(" * 20 + "p" + ")" * 20 + ", p)")

    def test_sayings_beyond_the_bounds_are_shown(self):
        self.tells("not(" * 90 + "p" + ")" * 90, show_saying, nested(90))

    def test_long_texts_are_refused(self):
        for text in (
            "not(" * 5000, "not(" * 5000 + "p" + ")" * 5000, "and(p, " * 5000 + "p" + ")" * 5000, "a" * 50000, "(" * 50000,
            "not(p" + ")" * 50000, "and(" + "p, " * 50000 + "p)", " " * 50000, "and(" * 5000 + "p, q)" * 5000,
        ):
            with self.subTest(text=text[:20]):
                self.refuses(NoSaying, read_saying, text)

    def test_what_is_no_text_is_refused(self):
        for thing in OTHER_KINDS + (("not", "p"), ["p"], ("p",), b"not(p)", {"p": 1}, ["not", "p"]):
            with self.subTest(thing=shown(thing)):
                with self.assertRaises(NoSaying) as caught:
                    read_saying(thing)
                self.assertIs(type(caught.exception), NoSaying)

    def test_a_refusal_changes_nothing(self):
        self.refuses(NoSaying, read_saying, GOOD + ")")
        self.tells(("and", ("or", "p", ("no",)), ("not", "q")), read_saying, GOOD)

    def test_each_told_tuple_is_new(self):
        one, other = read_saying(GOOD), read_saying(GOOD)
        self.assertIsNot(one, other)
        self.assertIsNot(one[1], other[1])


if __name__ == "__main__":
    unittest.main()
