"""Fractions: tuples (top, bottom) of whole numbers in lowest terms, bottom from 1 on."""

from truthgrades.errors import NoFraction
from truthgrades.kinds import is_whole


def fraction(top, bottom):
    """The fraction top / bottom; NoFraction where bottom is 0, or where one of both is no whole number."""
    if not is_whole(top) or not is_whole(bottom):
        raise NoFraction("a fraction is made of two whole numbers")
    if bottom == 0:
        raise NoFraction("nothing is divided by 0")
    # A shared part below 0 brings the sign of the bottom to the top.
    shared = shared_part(top, bottom) if bottom > 0 else -shared_part(top, bottom)
    return (top // shared, bottom // shared)


def shared_part(one, other):
    """The greatest whole number that divides both, of which not both are 0."""
    larger = abs(one)
    smaller = abs(other)
    while smaller > 0:
        rest = larger % smaller
        larger = smaller
        smaller = rest
    return larger


def plus(a, b):
    """The sum of two fractions."""
    return fraction(a[0] * b[1] + b[0] * a[1], a[1] * b[1])


def minus(a, b):
    """The first fraction less the second one."""
    return fraction(a[0] * b[1] - b[0] * a[1], a[1] * b[1])


def times(a, b):
    """The product of two fractions."""
    return fraction(a[0] * b[0], a[1] * b[1])


def over(a, b):
    """The first fraction divided by the second one; NoFraction where this is 0."""
    return fraction(a[0] * b[1], a[1] * b[0])


def below(a, b):
    """Whether the first fraction is less than the second one."""
    return a[0] * b[1] < b[0] * a[1]


def sum_of_products(ones, others):
    """The sum of the products of two rows of fractions, place by place."""
    total = (0, 1)
    for a, b in zip(ones, others):
        total = plus(total, times(a, b))
    return total
