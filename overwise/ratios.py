"""Fractions: tuples (top, bottom) of whole numbers in lowest terms, the bottom from 1 on."""

from overwise.errors import NoFraction, NothingBy
from overwise.words import is_whole


def common_divisor(a, b):
    """The greatest whole number that divides both; a and b are from 0 on, not both 0."""
    while b != 0:
        rest = a % b
        a = b
        b = rest
    return a


def is_fraction(thing):
    """Whether a thing, whatever it is, is a fraction in lowest terms [20]."""
    if not isinstance(thing, tuple) or len(thing) != 2:
        return False
    if not is_whole(thing[0]) or not is_whole(thing[1]) or thing[1] < 1:
        return False
    return common_divisor(abs(thing[0]), thing[1]) == 1


def fraction(top, bottom):
    """The fraction that top divided by bottom is [20]."""
    if not is_whole(top) or not is_whole(bottom) or bottom == 0:
        raise NoFraction((top, bottom))
    divisor = common_divisor(abs(top), abs(bottom))
    if bottom < 0:
        divisor = -divisor
    return (top // divisor, bottom // divisor)


def plus(one, other):
    """The sum of two fractions [21]."""
    return fraction(one[0] * other[1] + other[0] * one[1], one[1] * other[1])


def minus(one, other):
    """The first fraction less the second [21]."""
    return fraction(one[0] * other[1] - other[0] * one[1], one[1] * other[1])


def times(one, other):
    """The product of two fractions [21]."""
    return fraction(one[0] * other[0], one[1] * other[1])


def over(one, other):
    """The first fraction divided by the second [21]."""
    if other[0] == 0:
        raise NothingBy()
    return fraction(one[0] * other[1], one[1] * other[0])


def less(one, other):
    """Whether the first fraction is less than the second [21]."""
    return one[0] * other[1] < other[0] * one[1]


def by_twos(number, k):
    """The fraction number / 2 ** k [21]."""
    return fraction(number, 1 << k)


def raised(one, k):
    """The least fraction not below this one that times 2 ** k is whole [22]."""
    # The quotient of a whole number rounds down, so it is taken of the turned top to round up.
    return by_twos(-((-one[0] << k) // one[1]), k)
