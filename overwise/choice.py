"""The cheapest right form for a told divisor of plain words, and why no cheaper one is right."""

from overwise.forms import (
    Early, More, Scaled, Shifted, Wide, least_wrong, need_divisor, right_to, twos_in, wrong_word,
)
from overwise.prices import need_prices

# The words of a form's rows, but for the last shift, which stands only where there is something to shift.
ROWS_AHEAD = {
    "shifted": (),
    "scaled": ("set", "high"),
    "early": ("right", "set", "high"),
    "more": ("set", "low", "sum", "high", "sum"),
    "wide": ("set", "high", "gap", "right", "sum"),
}


def ceiling(top, bottom):
    """The least whole number that is not less than top / bottom."""
    return -(-top // bottom)


def candidates(width, d):
    """The candidates of a width and a told divisor, in their order [35]."""
    need_divisor(width, d)
    forms = [Shifted(d.bit_length() - 1)]
    forms.extend(scaled_candidates(width, d))
    forms.extend(early_candidates(width, d))
    forms.extend(more_candidates(width, d))
    length = (d - 1).bit_length()
    if length != 0:
        forms.append(Wide(ceiling(1 << (width + length), d) - (1 << width), length))
    return forms


def scaled_candidates(width, d):
    """The scaled forms among the candidates, by rising shifts [35]."""
    forms = []
    for k in range((d - 1).bit_length() + 1):
        factor = ceiling(1 << (width + k), d)
        if factor < 1 << width:
            forms.append(Scaled(factor, k))
    return forms


def early_candidates(width, d):
    """The early forms among the candidates: the scaled ones for the odd part of d, the twos taken out ahead [35]."""
    twos = twos_in(d)
    if twos == 0:
        return []
    return [Early(twos, form.factor, form.shift) for form in scaled_candidates(width, d >> twos)]


def more_candidates(width, d):
    """The more forms among the candidates, by rising shifts [35]."""
    forms = []
    for k in range((d - 1).bit_length() + 1):
        factor = ((1 << (width + k)) - 1) // d
        if 1 <= factor < 1 << width:
            forms.append(More(factor, k))
    return forms


def form_words(form):
    """The words of the machine's rows of which a form is made [36]."""
    words = list(ROWS_AHEAD[form.word()])
    # A wide form has shifted by one already, where it halves the gap.
    done = 1 if form.word() == "wide" else 0
    if form.shift > done:
        words.append("right")
    return words


def price_of_form(form, prices):
    """The price of a form by a table of prices [36]."""
    table = need_prices(prices)
    return sum([table[word] for word in form_words(form)])


def first_right(forms, wrong):
    """The first of the forms at which wrong tells None, and each one ahead of it with what wrong tells.

    One of the candidates is always right [35], [45], so the walk comes to an end within it.
    """
    refused = []
    for form in forms:
        found = wrong(form)
        if found is None:
            return (form, refused)
        refused.append((form, found))


def choose(width, d, prices):
    """The cheapest right candidate, and each one ahead of it with its wrong word [37]."""
    forms = candidates(width, d)
    table = need_prices(prices)
    # sorted leaves equally cheap ones in their order.
    ordered = sorted(forms, key=lambda form: price_of_form(form, table))
    return first_right(ordered, lambda form: wrong_word(width, d, form))


def why_none(width, d, k):
    """The one factor that can be right with the total width + k, and its wrong word, None where it is right [38]."""
    need_divisor(width, d)
    factor = ceiling(1 << (width + k), d)
    return (factor, least_wrong(width, d, (0, factor, 0, width + k)))


def line_at(width, d, total):
    """A factor and an addend that are right with this total, None where there are none [39]."""
    need_divisor(width, d)
    last = (1 << width) - 1
    power = 1 << total
    above = ceiling(power, d)
    if right_to(last, d, (0, above, 0, total)):
        return (above, 0)
    below = (power - 1) // d
    addend = (last // d) * (power - below * d)
    if right_to(last, d, (0, below, addend, total)):
        return (below, addend)
    return None


def least_total(width, d):
    """The least total with which a factor and an addend are right, and these two [39]."""
    total = 0
    line = line_at(width, d, total)
    while line is None:
        total = total + 1
        line = line_at(width, d, total)
    return (total, line[0], line[1])
