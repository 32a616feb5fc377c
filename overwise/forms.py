"""Forms: rows of multiplication and shift in the place of a division of plain words by a told divisor."""

from overwise.errors import NoDivisor, NoForm
from overwise.words import is_between, is_word, need_width


def need_divisor(width, d):
    """Refuse what is no told divisor of the width [30]."""
    need_width(width)
    if not is_between(d, 1, (1 << width) - 1):
        raise NoDivisor(d)


def twos_in(d):
    """The greatest t such that 2 ** t divides d [30]."""
    twos = 0
    while d % 2 == 0:
        d = d // 2
        twos = twos + 1
    return twos


def brought(reckoning, x):
    """The number to which a reckoning (early, factor, addend, total) brings x [30]."""
    return (reckoning[1] * (x >> reckoning[0]) + reckoning[2]) >> reckoning[3]


class Form:
    """What the five forms have in common; it is not made by itself [31]."""

    def quotient(self, width, x):
        """The number to which the form's reckoning in the width brings x [31]."""
        return brought(self.numbers_in(width), x)


class Shifted(Form):
    """A shift alone."""

    def __init__(self, shift):
        self.shift = shift
        if not is_shift(shift):
            raise NoForm(self.told())

    def word(self):
        """The form's word [31]."""
        return "shifted"

    def told(self):
        """The form's word and numbers [31]."""
        return (self.word(), self.shift)

    def numbers_in(self, width):
        """The form's reckoning in the width [31]."""
        need_width(width)
        return (0, 1, 0, self.shift)


class Scaled(Form):
    """The high half of a product, then a shift."""

    def __init__(self, factor, shift):
        self.factor = factor
        self.shift = shift
        if not is_factor(factor) or not is_shift(shift):
            raise NoForm(self.told())

    def word(self):
        """The form's word [31]."""
        return "scaled"

    def told(self):
        """The form's word and numbers [31]."""
        return (self.word(), self.factor, self.shift)

    def numbers_in(self, width):
        """The form's reckoning in the width [31]."""
        need_width(width)
        return (0, self.factor, 0, width + self.shift)


class Early(Form):
    """A shift ahead, then as a scaled form."""

    def __init__(self, early, factor, shift):
        self.early = early
        self.factor = factor
        self.shift = shift
        if not is_shift(early) or not is_factor(factor) or not is_shift(shift):
            raise NoForm(self.told())

    def word(self):
        """The form's word [31]."""
        return "early"

    def told(self):
        """The form's word and numbers [31]."""
        return (self.word(), self.early, self.factor, self.shift)

    def numbers_in(self, width):
        """The form's reckoning in the width [31]."""
        need_width(width)
        return (self.early, self.factor, 0, width + self.shift)


class More(Form):
    """As a scaled form of the word and one more."""

    def __init__(self, factor, shift):
        self.factor = factor
        self.shift = shift
        if not is_factor(factor) or not is_shift(shift):
            raise NoForm(self.told())

    def word(self):
        """The form's word [31]."""
        return "more"

    def told(self):
        """The form's word and numbers [31]."""
        return (self.word(), self.factor, self.shift)

    def numbers_in(self, width):
        """The form's reckoning in the width [31]."""
        need_width(width)
        return (0, self.factor, self.factor, width + self.shift)


class Wide(Form):
    """As a scaled form by a factor that has one bit more than a word."""

    def __init__(self, factor, shift):
        self.factor = factor
        self.shift = shift
        if not is_factor(factor) or not is_between(shift, 1, 64):
            raise NoForm(self.told())

    def word(self):
        """The form's word [31]."""
        return "wide"

    def told(self):
        """The form's word and numbers [31]."""
        return (self.word(), self.factor, self.shift)

    def numbers_in(self, width):
        """The form's reckoning in the width [31]."""
        need_width(width)
        return (0, (1 << width) + self.factor, 0, width + self.shift)


def is_factor(thing):
    """Whether a thing, whatever it is, can be the factor of a form [31]."""
    return is_between(thing, 0, 2 ** 32 - 1)


def is_shift(thing):
    """Whether a thing, whatever it is, can be a shift of a form [31]."""
    return is_between(thing, 0, 64)


def is_reckoning(thing):
    """Whether a thing, whatever it is, is a reckoning [30]."""
    if not isinstance(thing, tuple) or len(thing) != 4:
        return False
    if not is_between(thing[0], 0, 64) or not is_between(thing[3], 0, 130):
        return False
    return is_between(thing[1], 0, 1 << 70) and is_between(thing[2], 0, 1 << 70)


def need_reckoning(width, d, reckoning):
    """Refuse what is no width, no told divisor, no reckoning for it [34]."""
    need_divisor(width, d)
    if not is_reckoning(reckoning) or reckoning[0] > twos_in(d):
        raise NoForm(reckoning)


def need_form(width, d, form):
    """Refuse what is no width, no told divisor, no form for it [34]."""
    need_divisor(width, d)
    if form.numbers_in(width)[0] > twos_in(d):
        raise NoForm(form.told())


def corners_to(last, d):
    """The numbers at which to look, to know of all from 0 to last [32]."""
    quotient = last // d
    corners = [0, min(d - 1, last), quotient * d, last]
    if quotient != 0:
        corners.append(quotient * d - 1)
    return sorted(set(corners))


def corner_words(width, d):
    """The corners of all words of the width [32]."""
    need_divisor(width, d)
    return corners_to((1 << width) - 1, d)


def right_to(last, d, reckoning):
    """Whether a reckoning for d brings all numbers from 0 to last to their quotients [32]."""
    return all([brought(reckoning, x) == x // d for x in corners_to(last, d)])


def first_failing(last, holds):
    """The least number from 0 to last for which holds is false; from there to last it is false throughout."""
    low = 0
    high = last
    while low < high:
        middle = (low + high) // 2
        if holds(middle):
            low = middle + 1
        else:
            high = middle
    return low


def least_wrong(width, d, reckoning):
    """The wrong word of a reckoning for d, None where it is right [33]."""
    last = (1 << width) - 1
    if right_to(last, d, reckoning):
        return None
    return first_failing(last, lambda n: right_to(n, d, reckoning))


def reckoning_is_right(width, d, reckoning):
    """Whether a reckoning is right for all words [32]."""
    need_reckoning(width, d, reckoning)
    return right_to((1 << width) - 1, d, reckoning)


def is_right(width, d, form):
    """Whether a form is right for all words [32]."""
    need_form(width, d, form)
    return right_to((1 << width) - 1, d, form.numbers_in(width))


def reckoning_wrong(width, d, reckoning):
    """The wrong word of a reckoning, None where it is right [33]."""
    need_reckoning(width, d, reckoning)
    return least_wrong(width, d, reckoning)


def wrong_word(width, d, form):
    """The wrong word of a form, None where it is right [33]."""
    need_form(width, d, form)
    return least_wrong(width, d, form.numbers_in(width))


def is_wrong_word(width, d, form, thing):
    """Whether a thing, whatever it is, is the wrong word of a form; None is it where the form is right [33]."""
    if thing is None:
        return is_right(width, d, form)
    need_form(width, d, form)
    if not is_word(width, thing):
        return False
    reckoning = form.numbers_in(width)
    if brought(reckoning, thing) == thing // d:
        return False
    return thing == 0 or right_to(thing - 1, d, reckoning)
