import unittest
from fractions import Fraction

from tests.helper import GradeCase
from truthgrades.errors import NoFraction
from truthgrades.fractions import below, fraction, minus, over, plus, sum_of_products, times

TALL = 10 ** 99
SMALL = [(top, bottom) for bottom in range(1, 8) for top in range(-8, 9) if Fraction(top, bottom).denominator == bottom]


def pair(number):
    return (number.numerator, number.denominator)


class Making(GradeCase):
    def test_lowest_terms(self):
        for top, bottom, due in (
            (1, 2, (1, 2)), (2, 4, (1, 2)), (6, 4, (3, 2)), (6, 3, (2, 1)), (7, 1, (7, 1)), (5, 5, (1, 1)),
            (1, 9, (1, 9)), (84, 36, (7, 3)), (17, 19, (17, 19)),
        ):
            self.tells(due, fraction, top, bottom)

    def test_signs(self):
        self.tells((-1, 2), fraction, -2, 4)
        self.tells((-1, 2), fraction, 2, -4)
        self.tells((1, 2), fraction, -2, -4)
        self.tells((-3, 1), fraction, 3, -1)

    def test_nought(self):
        for bottom in (1, 2, -1, -7, 10 ** 99):
            self.tells((0, 1), fraction, 0, bottom)

    def test_many_figures(self):
        self.tells((1, 5 * 10 ** 98), fraction, 2, TALL)
        self.tells((-TALL, TALL + 1), fraction, TALL * 6, -(TALL + 1) * 6)
        self.tells((1, 1), fraction, 10 ** 100 - 1, 10 ** 100 - 1)

    def test_a_bottom_of_nought_is_refused(self):
        for top in (0, 1, -1, 10 ** 99):
            self.refuses(NoFraction, fraction, top, 0)

    def test_what_is_no_whole_number_is_refused(self):
        for thing in (True, False, None, 1.0, "1", (1, 2)):
            self.refuses(NoFraction, fraction, thing, 2)
            self.refuses(NoFraction, fraction, 2, thing)

    def test_as_python_reckons(self):
        for top in range(-40, 41):
            for bottom in list(range(-40, 0)) + list(range(1, 41)):
                self.assertEqual(fraction(top, bottom), pair(Fraction(top, bottom)))

    def test_each_told_tuple_is_new(self):
        half = (1, 2)
        self.assertIsNot(fraction(1, 2), fraction(1, 2))
        self.assertIsNot(plus(half, (0, 1)), half)
        self.assertIsNot(times(half, (1, 1)), half)


class Reckoning(GradeCase):
    def test_plus(self):
        self.tells((5, 6), plus, (1, 2), (1, 3))
        self.tells((1, 1), plus, (1, 2), (1, 2))
        self.tells((0, 1), plus, (1, 2), (-1, 2))
        self.tells((-1, 6), plus, (1, 3), (-1, 2))
        self.tells((3, 4), plus, (0, 1), (3, 4))

    def test_minus(self):
        self.tells((1, 6), minus, (1, 2), (1, 3))
        self.tells((-1, 6), minus, (1, 3), (1, 2))
        self.tells((0, 1), minus, (-2, 7), (-2, 7))
        self.tells((-3, 4), minus, (0, 1), (3, 4))

    def test_times(self):
        self.tells((1, 6), times, (1, 2), (1, 3))
        self.tells((-1, 2), times, (-2, 3), (3, 4))
        self.tells((1, 2), times, (-2, 3), (-3, 4))
        self.tells((0, 1), times, (0, 1), (-3, 4))

    def test_over(self):
        self.tells((3, 2), over, (1, 2), (1, 3))
        self.tells((-8, 9), over, (-2, 3), (3, 4))
        self.tells((-8, 9), over, (2, 3), (-3, 4))
        self.tells((8, 9), over, (-2, 3), (-3, 4))
        self.tells((0, 1), over, (0, 1), (-3, 4))

    def test_over_nought_is_refused(self):
        for a in ((0, 1), (1, 2), (-1, 2), (TALL, 1)):
            self.refuses(NoFraction, over, a, (0, 1))

    def test_below(self):
        self.tells(True, below, (1, 3), (1, 2))
        self.tells(False, below, (1, 2), (1, 3))
        self.tells(False, below, (1, 2), (1, 2))
        self.tells(True, below, (-1, 2), (-1, 3))
        self.tells(True, below, (-1, 2), (0, 1))
        self.tells(False, below, (0, 1), (0, 1))
        self.tells(True, below, (0, 1), (1, TALL))

    def test_many_figures(self):
        self.tells((1, 5 * 10 ** 98), plus, (1, TALL), (1, TALL))
        self.tells((-1, TALL * (TALL + 1)), minus, (1, TALL + 1), (1, TALL))
        self.tells((1, 1), times, (TALL, 3), (3, TALL))
        self.tells((-1, TALL * TALL), times, (1, TALL), (-1, TALL))
        self.tells((TALL * TALL, 1), over, (TALL, 1), (1, TALL))
        self.tells(True, below, (TALL, TALL + 1), (TALL + 1, TALL + 2))
        self.tells(False, below, (-TALL, TALL + 1), (-(TALL + 1), TALL + 2))

    def test_as_python_reckons(self):
        for a in SMALL:
            for b in SMALL:
                left, right = Fraction(*a), Fraction(*b)
                self.same(plus(a, b), pair(left + right))
                self.same(minus(a, b), pair(left - right))
                self.same(times(a, b), pair(left * right))
                self.same(below(a, b), left < right)
                if b != (0, 1):
                    self.same(over(a, b), pair(left / right))

    def test_sum_of_products(self):
        self.tells((0, 1), sum_of_products, (), ())
        self.tells((1, 6), sum_of_products, ((1, 2),), ((1, 3),))
        self.tells((-1, 3), sum_of_products, ((1, 2), (2, 1), (0, 1)), ((1, 3), (-1, 4), (5, 1)))
        self.tells((0, 1), sum_of_products, ((TALL, 1), (-1, 1)), ((1, TALL), (1, 1)))

    def test_told_fractions_may_be_handed_in_again(self):
        # 49 products of 100 figures: more figures than Python writes out.
        long = (1, 1)
        for step in range(49):
            long = times(long, (TALL + 1, TALL))
        self.assertTrue(long == ((TALL + 1) ** 49, TALL ** 49))
        self.assertTrue(over(long, long) == (1, 1))
        self.assertTrue(minus(long, long) == (0, 1))
        self.assertIs(below((1, 1), long), True)
        for refused in (lambda: over(long, (0, 1)), lambda: fraction(long[0], 0)):
            with self.assertRaises(NoFraction):
                refused()


if __name__ == "__main__":
    unittest.main()
