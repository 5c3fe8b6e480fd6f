"""Fractions: tuples (upper, lower) of whole numbers, in lowest terms, lower from 1 on."""

from crywalks.webs import is_tuple_of, is_whole


def greatest_divisor(one, other):
    """The greatest whole number that goes into both, neither below 0, not both 0."""
    while other > 0:
        one, other = other, one % other
    return one


def fraction(upper, lower):
    """The fraction of two whole numbers, lower not 0."""
    divisor = greatest_divisor(abs(upper), abs(lower))
    if lower < 0:
        divisor = -divisor
    return (upper // divisor, lower // divisor)


def plus(one, other):
    """The sum of two fractions."""
    return fraction(one[0] * other[1] + other[0] * one[1], one[1] * other[1])


def minus(one, other):
    """The one fraction less the other."""
    return fraction(one[0] * other[1] - other[0] * one[1], one[1] * other[1])


def times(one, other):
    """The product of two fractions."""
    return fraction(one[0] * other[0], one[1] * other[1])


def is_less(one, other):
    """Whether the one fraction is less than the other."""
    return one[0] * other[1] < other[0] * one[1]


def is_fraction(thing):
    """Whether it is a fraction, of anything."""
    if not is_tuple_of(thing, 2):
        return False
    upper, lower = thing
    if not is_whole(upper) or not is_whole(lower) or lower < 1:
        return False
    return greatest_divisor(abs(upper), lower) == 1
