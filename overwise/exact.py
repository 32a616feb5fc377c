"""Rests, inverses, exact quotients, and whether a word is a multiple, all of plain words by a told divisor."""

from overwise.errors import NoDivisor
from overwise.forms import need_divisor, twos_in
from overwise.words import need_width


def rest_of(width, x, d, q):
    """The rest that x leaves by d where q is its quotient [47]."""
    need_divisor(width, d)
    return (x - q * d) % (1 << width)


def need_odd(width, d):
    """Refuse what is no told divisor of the width, or an even one [47]."""
    need_divisor(width, d)
    if d % 2 == 0:
        raise NoDivisor(d)


def steps_to_inverse(width, d):
    """The words that lead from an odd d to its inverse [47]."""
    size = 1 << width
    steps = [d]
    while steps[-1] * d % size != 1:
        steps.append(steps[-1] * (2 - d * steps[-1]) % size)
    return steps


def inverse_steps(width, d):
    """The words that lead from d to its inverse, both among them [47]."""
    need_odd(width, d)
    return steps_to_inverse(width, d)


def inverse(width, d):
    """The word that times d has the rest 1 by B [47]."""
    need_odd(width, d)
    return steps_to_inverse(width, d)[-1]


def exact(width, d):
    """The twos in d, and the inverse of what is left of it without them [48]."""
    need_divisor(width, d)
    twos = twos_in(d)
    return (twos, inverse(width, d >> twos))


def exact_quotient(width, d, x):
    """The quotient of x by d where d divides x; of other words it is reckoned likewise [48]."""
    numbers = exact(width, d)
    return (x >> numbers[0]) * numbers[1] % (1 << width)


def turned_right(width, x, k):
    """The word with its k lowest figures of two put ahead of the others [49]."""
    need_width(width)
    lowest = x % (1 << k)
    return (x >> k) + (lowest << (width - k))


def multiple_of(width, d):
    """The inverse, the twos and the bound by which multiples of d are known [49]."""
    numbers = exact(width, d)
    return (numbers[1], numbers[0], ((1 << width) - 1) // d)


def is_multiple(width, d, x):
    """Whether d divides a word [49]."""
    numbers = multiple_of(width, d)
    product = x * numbers[0] % (1 << width)
    return turned_right(width, product, numbers[1]) <= numbers[2]
