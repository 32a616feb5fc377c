"""Words of a width: what they are, their figures of two, and reckoning with them as plain ones."""

from overwise.errors import NoText, NoWidth


def is_whole(thing):
    """Whether a thing is a whole number [14]; Python counts True and False among its own, the document doesn't."""
    return isinstance(thing, int) and not isinstance(thing, bool)


def is_between(thing, low, high):
    """Whether a thing, whatever it is, is a whole number from low to high."""
    return is_whole(thing) and low <= thing <= high


def need_width(width):
    """Refuse what is no width [10]."""
    if not is_between(width, 4, 32):
        raise NoWidth(width)


def is_word(width, thing):
    """Whether a thing, whatever it is, is the bits of a word of the width [2]."""
    return is_between(thing, 0, (1 << width) - 1)


def figures_of(width, bits):
    """The word in figures of two, the greatest worth first [14]."""
    need_width(width)
    return "".join([str((bits >> (width - 1 - place)) & 1) for place in range(width)])


def bits_in(width, text):
    """The word that is written in these figures of two [14]."""
    need_width(width)
    if not isinstance(text, str) or len(text) != width:
        raise NoText(text)
    bits = 0
    for sign in text:
        if sign not in ("0", "1"):
            raise NoText(text)
        bits = bits * 2 + (1 if sign == "1" else 0)
    return bits


def sum_of(width, a, b):
    """The sum's bits and its carry [15]."""
    need_width(width)
    total = a + b
    return (total % (1 << width), total >> width)


def gap_of(width, a, b):
    """The bits of a less b, and the borrow [15]."""
    need_width(width)
    return ((a - b) % (1 << width), 1 if a < b else 0)


def low_product(width, a, b):
    """The lower half of a product [15]."""
    need_width(width)
    return a * b % (1 << width)


def high_product(width, a, b):
    """The upper half of a product [15]."""
    need_width(width)
    return (a * b) >> width


def left(width, a, k):
    """The word moved left by k [16]."""
    need_width(width)
    return (a << k) % (1 << width)


def right(width, a, k):
    """The word moved right by k [16]."""
    need_width(width)
    return a >> k


def slide(width, a, k):
    """The word moved right by k as a signed one, its count rounded down [16]."""
    need_width(width)
    count = a if a < (1 << (width - 1)) else a - (1 << width)
    return (count >> k) % (1 << width)
