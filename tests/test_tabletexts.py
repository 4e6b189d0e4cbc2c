import unittest

from tests.helper import OTHER_KINDS, GradeCase, shown
from tests.test_tables import NAMES, whole_tables
from truthgrades.errors import NoTable
from truthgrades.tabletexts import read_table, show_table

# Tables and their texts, written by hand.
BOTH = (
    ((1, (), ()), "grades 1; wished"),
    ((1, (0,), ()), "grades 1; wished 0"),
    ((9, (), ()), "grades 9; wished"),
    ((9, tuple(range(9)), ()), "grades 9; wished 0 1 2 3 4 5 6 7 8"),
    ((3, (0, 2), ()), "grades 3; wished 0 2"),
    ((2, (1,), (("false", 0, (0,)),)), "grades 2; wished 1; false 0 0"),
    ((2, (1,), (("not", 1, (1, 0)),)), "grades 2; wished 1; not 1 1 0"),
    ((2, (1,), (("and", 2, (0, 0, 0, 1)),)), "grades 2; wished 1; and 2 0 0 0 1"),
    ((2, (), (("abcdefgh", 0, (1,)), ("or", 0, (0,)))), "grades 2; wished; abcdefgh 0 1; or 0 0"),
    (
        (3, (1, 2), (("then", 2, (2, 2, 2, 0, 2, 2, 0, 1, 2)), ("not", 1, (2, 0, 0)), ("false", 0, (0,)))),
        "grades 3; wished 1 2; then 2 2 2 2 0 2 2 0 1 2; not 1 2 0 0; false 0 0",
    ),
    ((1, (0,), (("one", 1, (0,)), ("two", 2, (0,)))), "grades 1; wished 0; one 1 0; two 2 0"),
    # Connectives that are called like the first two parts.
    ((2, (), (("wished", 0, (1,)), ("grades", 1, (1, 0)))), "grades 2; wished; wished 0 1; grades 1 1 0"),
    ((2, (0, 1), (("grades", 0, (1,)),)), "grades 2; wished 0 1; grades 0 1"),
    (
        (2, (1,), tuple((name, 0, (1,)) for name in NAMES[:8])),
        "grades 2; wished 1; aa 0 1; bb 0 1; cc 0 1; dd 0 1; ee 0 1; ff 0 1; gg 0 1; hh 0 1",
    ),
)

GOOD = "grades 2; wished 1; not 1 1 0; true 0 1"

# Each is a table's text but for one thing.
WRONG = (
    "", " ", "\n", "; ", ";", "grades", "wished", "grades 2", "grades 2; ", "grades 2;", "wished 1", "; wished",
    "grades; wished", "grades ; wished", "grades 2; wished 1; ", "grades 2; wished 1;", "; grades 2; wished 1",
    "grades 2; ; wished 1", "grades 2; wished 1; ; true 0 1", "grades 2; wished 1; true 0 1; ",
    # A blank too many or too few.
    " grades 2; wished 1", "grades 2; wished 1 ", "grades  2; wished 1", "grades 2 ; wished 1", "grades 2;  wished 1",
    "grades 2;wished 1", "grades2; wished 1", "grades 2; wished1", "grades 2; wished 01", "grades 2; wished ",
    "grades 2; wished 0  1", "grades 2; wished 1; not 1 1  0", "grades 2; wished 1; not 1 10", "grades 2; wished 1; not1 1 0",
    "grades 2; wished 1; not 1 1 0 ", "grades 2; wished 1;  not 1 1 0", "grades 2; wished 1;not 1 1 0",
    # A wrong sign.
    "grades 2, wished 1", "grades 2. wished 1", "grades: 2; wished 1", "grades 2; wished 0, 1", "grades 2; wished 1;; true 0 1",
    "grades +2; wished 1", "grades -2; wished 1", "grades 2; wished +1", "grades 2; wished -1", "grades 2; wished 1; not 1 1 -0",
    "grades 2.0; wished 1", "grades 2; wished 1\t", "grades\t2; wished 1", "grades two; wished 1", "grades 2; wished x",
    "grades 1_0; wished 1", "grades 2; wished 1; not 1 1 _", "grades 2; wished 1; not 1 1 None",
    "grades 2; wished 1; not 1 None 0", "grades None; wished 1", "grades \u0662; wished 1", "grades 2; wished \u00b9",
    # A wrong word.
    "Grades 2; wished 1", "grade 2; wished 1", "grades 2; Wished 1", "grades 2; wish 1", "grades 2; wishes 1",
    "wished 1; grades 2", "wished 2; wished 1", "grades 2; grades 1", "grades 2; not 1 1 0; wished 1", "grades 2; true 0 1",
    "2; 1", "2; wished 1", "grades 2; 1", "grades 2; wished 1; 1 1 0", "grades 2; wished 1; p 0 1",
    "grades 2; wished 1; abcdefghi 0 1", "grades 2; wished 1; Not 1 1 0", "grades 2; wished 1; no1 1 1 0",
    # A nought ahead.
    "grades 02; wished 1", "grades 2; wished 01", "grades 2; wished 1; not 01 1 0", "grades 2; wished 1; not 1 01 0",
    "grades 2; wished 1; not 1 1 00", "grades 2; wished 00",
    # Something beyond, too much or too little.
    "grades 0; wished", "grades 10; wished 1", "grades 2; wished 2", "grades 2; wished 1 0", "grades 2; wished 1 1",
    "grades 2 2; wished 1", "grades 2; wished 1; not", "grades 2; wished 1; not 1", "grades 2; wished 1; not 1 1",
    "grades 2; wished 1; not 1 1 0 0", "grades 2; wished 1; not 1 1 2", "grades 2; wished 1; not 2 1 0",
    "grades 2; wished 1; true 0", "grades 2; wished 1; true 0 2", "grades 2; wished 1; true 0 0 1",
    "grades 2; wished 1; or 3 0 1 0 1 0 1 0 1", "grades 1; wished; or 3 0", "grades 2; wished 1; true 0 1; true 0 1",
    "grades 2; wished 1; true 0 1; true 1 0 1", "grades 2; wished 1 grades 2; wished 1", "grades 2; wished 1; grades 2; wished 1",
    "grades 2; wished 1; " + "; ".join(name + " 0 1" for name in NAMES),
    "grades " + "9" * 5000 + "; wished", "grades 2; wished " + "1" * 5000, "grades " + "0" * 5000 + "2; wished 1",
    # A line's end.
    "grades 2; wished 1\n", "\ngrades 2; wished 1", "grades 2;\nwished 1", "grades\n2; wished 1", "grades 2; wished\n1",
    "grades 2; wished 1; not 1 1 0\n", "grades 2; wished 1; not\n1 1 0", "grades 2\n; wished 1", "grades 2; wished 1\r\n",
)


class TableTexts(GradeCase):
    def test_both_ways(self):
        for table, text in BOTH:
            with self.subTest(text=text):
                self.tells(text, show_table, table)
                self.tells(table, read_table, text)

    def test_there_and_back(self):
        for table in whole_tables():
            self.tells(table, read_table, self.ask(show_table, table))

    def test_other_texts_are_refused(self):
        self.ask(read_table, GOOD)
        for text in WRONG:
            with self.subTest(text=text[:80]):
                self.refuses(NoTable, read_table, text)

    def test_a_text_that_lacks_a_sign_is_refused(self):
        text = "grades 2; wished 1; or 1 1 0; it 0 1"
        for place in range(len(text)):
            with self.subTest(place=place):
                self.refuses(NoTable, read_table, text[:place] + text[place + 1:])

    def test_what_is_no_text_is_refused(self):
        for thing in OTHER_KINDS + ((2, (1,), ()), ["grades 2; wished 1"], (GOOD,), GOOD.encode(), {GOOD: 1}):
            with self.subTest(thing=shown(thing)):
                with self.assertRaises(NoTable) as caught:
                    read_table(thing)
                self.assertIs(type(caught.exception), NoTable)

    def test_a_refusal_changes_nothing(self):
        self.refuses(NoTable, read_table, GOOD + " ")
        self.tells((2, (1,), (("not", 1, (1, 0)), ("true", 0, (1,)))), read_table, GOOD)

    def test_each_told_tuple_is_new(self):
        one, other = read_table(GOOD), read_table(GOOD)
        self.assertIsNot(one, other)
        self.assertIsNot(one[2], other[2])
        self.assertIsNot(one[2][0], other[2][0])


if __name__ == "__main__":
    unittest.main()
