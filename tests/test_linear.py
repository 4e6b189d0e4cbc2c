import unittest
from fractions import Fraction

from tests.helper import GradeCase, Mixer
from tests.test_chains import pair
from truthgrades.linear import meeting, meets

TALL = 10 ** 99


def row(numbers, number, strict=False):
    """A row of whole numbers and of Python's fractions."""
    return (tuple(pair(Fraction(one)) for one in numbers), pair(Fraction(number)), strict)


def plain_sum(one, point):
    """What a row comes to at a point, by Python's own fractions."""
    return sum((Fraction(*a) * Fraction(*x) for a, x in zip(one[0], point)), Fraction(*one[1]))


def plainly_meets(one, point):
    reached = plain_sum(one, point)
    return reached > 0 if one[2] else reached >= 0


def plainly_unmet(rows, many, shares):
    """Whether shares show it: one from 0 on for each row, noughts as numbers, and a number below 0 or strictly 0."""
    wholes = [Fraction(*share) for share in shares]
    if len(wholes) != len(rows) or any(share < 0 for share in wholes):
        return False
    for unknown in range(many):
        if sum(share * Fraction(*one[0][unknown]) for share, one in zip(wholes, rows)) != 0:
            return False
    number = sum((share * Fraction(*one[1]) for share, one in zip(wholes, rows)), Fraction(0))
    return number < 0 or number == 0 and any(share > 0 and one[2] for share, one in zip(wholes, rows))


def is_plain_fraction(thing):
    if type(thing) is not tuple or len(thing) != 2 or any(type(part) is not int for part in thing):
        return False
    return thing[1] > 0 and pair(Fraction(*thing)) == thing


class MeetingCase(GradeCase):
    def question(self, rows, many):
        """Asks, and sees to it that the answer is right; tells its word."""
        before = list(rows)
        told = meeting(rows, many)
        self.assertTrue(rows == before)
        self.assertIs(type(told), tuple)
        self.assertEqual(len(told), 2)
        self.assertIs(type(told[1]), tuple)
        self.assertTrue(all(is_plain_fraction(one) for one in told[1]))
        self.is_new(told, rows)
        if told[0] == "met":
            self.assertEqual(len(told[1]), many)
            for one in rows:
                self.assertTrue(plainly_meets(one, told[1]))
                self.assertIs(meets(one, told[1]), True)
        else:
            self.assertEqual(told[0], "unmet")
            self.assertTrue(plainly_unmet(rows, many, told[1]))
        return told[0]

    def is_met(self, rows, many):
        self.assertEqual(self.question(rows, many), "met")

    def is_unmet(self, rows, many):
        self.assertEqual(self.question(rows, many), "unmet")


class Meeting(MeetingCase):
    def test_no_rows(self):
        for many in range(5):
            self.is_met([], many)
        self.tells(("met", ()), meeting, [], 0)

    def test_no_unknowns(self):
        for number, strict, due in (
            (0, False, "met"), (0, True, "unmet"), (1, False, "met"), (1, True, "met"), (-1, False, "unmet"),
            (-1, True, "unmet"), (Fraction(1, TALL), True, "met"), (Fraction(-1, TALL), False, "unmet"),
        ):
            self.assertEqual(self.question([row((), number, strict)], 0), due)
            self.assertEqual(self.question([row((), 2, True), row((), number, strict), row((), 0)], 0), due)
        self.is_met([row((), 0)] * 30, 0)
        self.is_unmet([row((), 0)] * 29 + [row((), 0, True)], 0)

    def test_noughts_for_numbers(self):
        for many in range(1, 5):
            self.is_met([row([0] * many, 0)], many)
            self.is_unmet([row([0] * many, 0, True)], many)
            self.is_unmet([row([0] * many, -1)], many)
            self.is_met([row([0] * many, 1, True)], many)

    def test_one_unknown(self):
        half, third = Fraction(1, 2), Fraction(1, 3)
        # x at least 1/2, and at most 1/3 or 1/2 or so.
        self.is_unmet([row([1], -half), row([-1], third)], 1)
        self.tells(("met", ((1, 2),)), meeting, [row([1], -half), row([-1], half)], 1)
        self.is_unmet([row([1], -half, True), row([-1], half)], 1)
        self.is_unmet([row([1], -half), row([-1], half, True)], 1)
        self.is_unmet([row([1], -half, True), row([-1], half, True)], 1)
        self.is_met([row([1], -third, True), row([-1], half, True)], 1)
        self.is_met([row([1], -TALL, True)], 1)
        self.is_met([row([-1], -TALL, True)], 1)
        self.tells(("met", ((0, 1),)), meeting, [row([1], 0), row([-1], 0)], 1)

    def test_the_shares_by_hand(self):
        # One row alone can be shown unmet by any share above 0.
        told = self.ask(meeting, [row([0], -3)], 1)
        self.assertEqual(told[0], "unmet")
        self.assertGreater(told[1][0][0], 0)
        # 2x - 1 and -3x + 1: only three of the one and two of the other leave no x.
        told = self.ask(meeting, [row([2], -1), row([-3], 1), row([1], 5)], 1)
        shares = [Fraction(*share) for share in told[1]]
        self.assertEqual([share / shares[1] for share in shares], [Fraction(3, 2), 1, 0])

    def test_two_unknowns(self):
        corner = [row([1, 0], 0), row([0, 1], 0)]
        self.is_met(corner + [row([-1, -1], 1)], 2)
        self.is_unmet(corner + [row([-1, -1], -1)], 2)
        self.is_met(corner + [row([-1, -1], 0)], 2)
        self.is_unmet(corner + [row([-1, -1], 0, True)], 2)
        self.is_unmet(corner + [row([-1, -1], 1), row([1, 1], -1, True)], 2)
        self.is_met(corner + [row([-1, -1], 1), row([1, 1], -1)], 2)
        # Two lines side by side, and two that cross.
        self.is_unmet([row([1, -1], -1), row([-1, 1], 0)], 2)
        self.is_met([row([1, -1], -1), row([-1, -1], 0)], 2)

    def test_strict_rows(self):
        # Each alone may be bound; all together leave a very small room, or none.
        for gap, due in ((0, "unmet"), (Fraction(1, TALL), "met")):
            self.assertEqual(self.question([row([1], 0, True), row([-1], gap, True)], 1), due)
            rows = [row([1, 0, 0], 0, True), row([-1, 1, 0], 0, True), row([0, -1, 1], 0, True), row([0, 0, -1], gap, True)]
            self.assertEqual(self.question(rows, 3), due)
        # The strict one may stand anywhere in the round.
        for place in range(5):
            rows = [row([1, -1, 0, 0], 0), row([0, 1, -1, 0], 0), row([0, 0, 1, -1], 0), row([-1, 0, 0, 1], 0)]
            rows = [one[:2] + (number == place,) for number, one in enumerate(rows)]
            self.assertEqual(self.question(rows, 4), "met" if place == 4 else "unmet")

    def test_a_single_point_of_thirty_rows(self):
        point = [Fraction(1, 3), Fraction(-2, 7), Fraction(5), Fraction(0)]
        rows = []
        for unknown in range(4):
            ones = [int(unknown == other) for other in range(4)]
            rows.append(row(ones, -point[unknown]))
            rows.append(row([-one for one in ones], point[unknown]))
        mixer = Mixer(71)
        while len(rows) < 30:
            numbers = [mixer.number(9) - 4 for unknown in range(4)]
            rows.append(row(numbers, -sum(a * x for a, x in zip(numbers, point))))
        self.tells(("met", tuple(pair(one) for one in point)), meeting, rows, 4)
        for place in range(30):
            stricter = rows[:place] + [rows[place][:2] + (True,)] + rows[place + 1:]
            self.is_unmet(stricter, 4)

    def test_thirty_strict_rows(self):
        # Around the middle: a room that is open on all sides.
        mixer = Mixer(72)
        rows = [row([mixer.number(19) - 9 for unknown in range(4)], 1, True) for number in range(30)]
        self.is_met(rows, 4)
        self.is_unmet([one[:1] + ((-1, 1), True) for one in rows[:15]] + [
            (tuple((-a[0], 1) for a in one[0]), (0, 1), True) for one in rows[:15]], 4)

    def test_the_same_row_often(self):
        self.is_met([row([1, 2], -3, True)] * 30, 2)
        self.is_unmet([row([1, 2], -3, True)] * 15 + [row([-1, -2], 3)] * 15, 2)

    def test_small_rooms_turn_no_rounds(self):
        # Many rows through one point: steps that lead nowhere must not be walked for ever.
        for seed in range(40):
            mixer = Mixer(seed)
            rows = [row([mixer.number(3) - 1 for unknown in range(4)], 0, mixer.number(4) == 0) for number in range(30)]
            for most in (4, 8, 12, 30):
                self.question(rows[:most], 4)
        beale = [
            row([Fraction(1, 4), -8, -1, 9], 0), row([Fraction(1, 2), -12, Fraction(-1, 2), 3], 0), row([0, 0, 1, 0], -1),
            row([Fraction(-3, 4), 20, Fraction(-1, 2), 6], 0, True),
        ]
        self.question(beale, 4)
        self.question([(tuple((-a[0], a[1]) for a in one[0]),) + one[1:] for one in beale], 4)

    def test_many_figures(self):
        mixer = Mixer(73)

        def tall():
            digits = 0
            for step in range(12):
                digits = digits * 10 ** 8 + mixer.number(10 ** 8)
            return digits + 1

        for step in range(3):
            numbers = [[Fraction((-1) ** mixer.number(2) * tall(), tall()) for unknown in range(4)] for one in range(30)]
            point = [Fraction(tall(), tall()) for unknown in range(4)]
            near = [-sum(a * x for a, x in zip(one, point)) for one in numbers]
            self.is_met([row(one, number) for one, number in zip(numbers, near)][:8], 4)
            self.is_unmet([row(one, number, True) for one, number in zip(numbers, near)][:3] + [
                row([-a for a in one], -number) for one, number in zip(numbers, near)][:3], 4)
            self.question([row(one, Fraction(tall(), tall()) - 1, True) for one in numbers], 4)

    def test_told_points_and_shares_may_be_handed_in_again(self):
        rows = [row([Fraction(TALL + 2 * one + 1, TALL + one * one), Fraction(one - 3, 7)], -1) for one in range(9)]
        told = meeting(rows, 2)
        self.assertEqual(told[0], "met")
        again = [((x, (1, 1)), x, False) for x in told[1]]
        self.question(again + rows, 2)

    def test_beyond_the_bounds(self):
        mixer = Mixer(74)
        for step in range(10):
            rows = [row([mixer.number(7) - 3 for unknown in range(6)], mixer.number(5) - 1) for number in range(36)]
            self.question(rows, 6)
            self.question(rows[:9], 6)

    def test_of_each_size(self):
        mixer = Mixer(75)
        words = {}
        for step in range(1500):
            many = step % 5
            size = mixer.number(31) if step % 2 else mixer.number(8)
            wide = mixer.pick((1, 2, 5, 30))
            rows = []
            for number in range(size):
                numbers = [self.a_number(mixer, wide) for unknown in range(many)]
                rows.append(row(numbers, self.a_number(mixer, wide) + mixer.number(2), mixer.number(3) == 0))
            word = self.question(rows, many)
            words[(word, many)] = words.get((word, many), 0) + 1
        self.assertEqual(len(words), 10)
        self.assertGreater(min(words.values()), 20)

    def test_around_a_point(self):
        mixer = Mixer(76)
        words = []
        for step in range(300):
            many = 1 + step % 4
            point = [self.a_number(mixer, 5) for unknown in range(many)]
            rows = []
            for number in range(mixer.number(31)):
                numbers = [self.a_number(mixer, 3) for unknown in range(many)]
                gap = Fraction(mixer.number(3), 7)
                strict = mixer.number(2) == 0 and (gap > 0 or step % 3 == 0)
                rows.append(row(numbers, gap - sum(a * x for a, x in zip(numbers, point)), strict))
            words.append(self.question(rows, many))
            if step % 3:
                # The point itself meets all, so some point must be told.
                self.assertEqual(words[-1], "met")
        self.assertGreater(words.count("unmet"), 20)

    def a_number(self, mixer, wide):
        return Fraction(mixer.number(2 * wide + 1) - wide, 1 + mixer.number(wide))

    def test_told_things_are_the_askers_own(self):
        rows = [row([1], -1), row([-1], 1)]
        told = meeting(rows, 1)
        rows.append(row([0], -1))
        self.same(told, ("met", ((1, 1),)))
        self.is_unmet(rows, 1)
        rows.pop()
        again = meeting(rows, 1)
        self.same(again, told)
        self.is_new(again, told)


class Meets(GradeCase):
    def test_no_unknowns(self):
        for number, strict, due in (
            ((0, 1), False, True), ((0, 1), True, False), ((1, 2), False, True), ((1, 2), True, True),
            ((-1, 2), False, False), ((-1, 2), True, False),
        ):
            self.tells(due, meets, ((), number, strict), ())

    def test_one_unknown(self):
        for x, loose, strict in (((1, 2), True, False), ((49, 99), False, False), ((50, 99), True, True)):
            self.tells(loose, meets, (((2, 1),), (-1, 1), False), (x,))
            self.tells(strict, meets, (((2, 1),), (-1, 1), True), (x,))

    def test_four_unknowns(self):
        # 1/2 - 2/3 + 3 - 4 comes to -7/6.
        numbers = ((1, 2), (-2, 3), (3, 1), (-4, 1))
        ones = ((1, 1),) * 4
        self.tells(True, meets, (numbers, (7, 6), False), ones)
        self.tells(False, meets, (numbers, (7, 6), True), ones)
        self.tells(True, meets, (numbers, (8, 5), True), ones)
        self.tells(False, meets, (numbers, (1, 1), False), ones)
        self.tells(True, meets, (numbers, (0, 1), True), ((0, 1), (0, 1), (1, 3), (-1, 4)))

    def test_many_figures(self):
        near = ((TALL, TALL + 1),)
        self.tells(True, meets, (((TALL + 1, TALL),), (-1, 1), False), near)
        self.tells(False, meets, (((TALL + 1, TALL),), (-1, 1), True), near)
        self.tells(True, meets, (((TALL + 2, TALL),), (-1, 1), True), near)

    def test_as_plainly(self):
        mixer = Mixer(77)
        told = []
        for step in range(400):
            many = step % 5
            some = [Fraction(mixer.number(9) - 4, 1 + mixer.number(4)) for number in range(2 * many)]
            point = tuple(pair(one) for one in some[:many])
            number = -sum(a * x for a, x in zip(some, some[many:])) if step % 3 == 0 else mixer.number(7) - 3
            one = row(some[many:], number, step % 2 == 0)
            self.tells(plainly_meets(one, point), meets, one, point)
            told.append(plainly_meets(one, point))
        self.assertGreater(told.count(True), 100)
        self.assertGreater(told.count(False), 100)


if __name__ == "__main__":
    unittest.main()
