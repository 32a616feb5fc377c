"""Signed words divided by a told divisor, the quotient cut towards nought."""

from overwise.choice import candidates, first_right, form_words
from overwise.errors import NoDivisor, NoForm
from overwise.forms import Form, corners_to, first_failing, is_factor, is_shift, twos_in
from overwise.prices import need_prices
from overwise.words import is_between, need_width


def need_signed_divisor(width, d):
    """Refuse what is no told divisor of signed words [40]."""
    need_width(width)
    if not is_between(d, 1, 1 << (width - 1)):
        raise NoDivisor(d)


def cut_quotient(x, d):
    """The quotient of a count, cut towards nought [40]."""
    return x // d if x >= 0 else -(-x // d)


class SignedForm:
    """What both signed forms have in common; it is not made by itself [41]."""


class Cutting(SignedForm):
    """The high half of a signed product, a shift, and one more below nought."""

    def __init__(self, factor, shift):
        self.factor = factor
        self.shift = shift
        if not is_factor(factor) or not is_shift(shift):
            raise NoForm(self.told())

    def word(self):
        """The signed form's word [41]."""
        return "cutting"

    def told(self):
        """The signed form's word and numbers [41]."""
        return (self.word(), self.factor, self.shift)

    def quotient(self, width, x):
        """The number to which a count is brought [41]."""
        need_width(width)
        return ((self.factor * x) >> (width + self.shift)) + (1 if x < 0 else 0)

    def early_in(self, width):
        """By how many bits a count is shifted ahead."""
        return 0

    def row_list(self):
        """The words of the machine's rows of which it is made [45]."""
        words = ["set", "high", "right", "gap", "and", "gap"]
        if self.shift != 0:
            words.append("slide")
        words.append("sum")
        return words


class Turned(SignedForm):
    """A form on the count without its sign, the sign put back behind it."""

    def __init__(self, form):
        if not isinstance(form, Form):
            raise NoForm(form)
        self.form = form

    def word(self):
        """The signed form's word [41]."""
        return "turned"

    def told(self):
        """The signed form's word, and what its form tells [41]."""
        return (self.word(), self.form.told())

    def quotient(self, width, x):
        """The number to which a count is brought [41]."""
        need_width(width)
        return self.form.quotient(width, x) if x >= 0 else -self.form.quotient(width, -x)

    def early_in(self, width):
        """By how many bits a count is shifted ahead."""
        return self.form.numbers_in(width)[0]

    def row_list(self):
        """The words of the machine's rows of which it is made [45]."""
        return ["right", "gap", "unlike", "gap"] + form_words(self.form) + ["unlike", "gap"]


def need_signed_form(width, d, form):
    """Refuse what is no width, no told divisor, no signed form for it [44]."""
    need_signed_divisor(width, d)
    if form.early_in(width) > twos_in(d):
        raise NoForm(form.told())


def signed_corners_to(up, down, d):
    """The numbers at which to look, to know of all from -down to up [42]."""
    corners = corners_to(up, d) if up >= 0 else []
    if down > 0:
        multiple = down // d * d
        below = [1 - d, 1 - multiple, -multiple, -down]
        corners.extend([x for x in below if -down <= x < 0])
    return sorted(set(corners))


def signed_corners(width, d):
    """The signed corners of all counts of the width [42]."""
    need_signed_divisor(width, d)
    half = 1 << (width - 1)
    return signed_corners_to(half - 1, half, d)


def right_at(width, d, form, counts):
    """Whether a signed form brings each of these counts to its quotient that is cut towards nought."""
    return all([form.quotient(width, x) == cut_quotient(x, d) for x in counts])


def right_about(width, d, form, far):
    """Whether a signed form is right at all counts that lie not farther from nought than far."""
    up = min(far, (1 << (width - 1)) - 1)
    return right_at(width, d, form, signed_corners_to(up, far, d))


def right_for_signed(width, d, form):
    """Whether a signed form is right for all counts [42]."""
    need_signed_form(width, d, form)
    return right_about(width, d, form, 1 << (width - 1))


def signed_wrong(width, d, form):
    """The wrong count of a signed form, None where it is right [43]."""
    if right_for_signed(width, d, form):
        return None
    half = 1 << (width - 1)
    far = first_failing(half, lambda n: right_about(width, d, form, n))
    if far < half and form.quotient(width, far) != far // d:
        return far
    return -far


def is_wrong_count(width, d, form, thing):
    """Whether a thing, whatever it is, is the wrong count of a signed form; None is it where the form is right [43]."""
    if thing is None:
        return right_for_signed(width, d, form)
    need_signed_form(width, d, form)
    half = 1 << (width - 1)
    if not is_between(thing, -half, half - 1):
        return False
    if form.quotient(width, thing) == cut_quotient(thing, d):
        return False
    up = thing - 1 if thing >= 0 else min(-thing, half - 1)
    return right_at(width, d, form, signed_corners_to(up, abs(thing) - 1, d))


def signed_candidates(width, d):
    """The signed candidates of a width and a told divisor, in their order [45]."""
    need_signed_divisor(width, d)
    forms = []
    for k in range((d - 1).bit_length() + 1):
        factor = (1 << (width + k)) // d + 1
        if factor < 1 << width:
            forms.append(Cutting(factor, k))
    forms.extend([Turned(form) for form in candidates(width, d)])
    return forms


def signed_words(form):
    """The words of the machine's rows of which a signed form is made [45]."""
    return form.row_list()


def price_of_signed(form, prices):
    """The price of a signed form by a table of prices [45]."""
    table = need_prices(prices)
    return sum([table[word] for word in signed_words(form)])


def signed_choose(width, d, prices):
    """The cheapest right signed candidate, and each one ahead of it with its wrong count [46]."""
    forms = signed_candidates(width, d)
    table = need_prices(prices)
    # sorted leaves equally cheap ones in their order.
    ordered = sorted(forms, key=lambda form: price_of_signed(form, table))
    return first_right(ordered, lambda form: signed_wrong(width, d, form))
