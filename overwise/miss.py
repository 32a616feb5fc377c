"""How far a line lies from a product by a fraction, and rows that tell such a product's quotient exactly."""

from overwise.corners import corner_points, is_short, need_line
from overwise.errors import NoForm, NoFraction
from overwise.ratios import fraction
from overwise.words import is_between, need_width


def need_fraction(top, bottom):
    """Refuse two things that are no top and no bottom of at most twenty figures each [56]."""
    if not is_short(top) or not is_short(bottom) or bottom < 1:
        raise NoFraction((top, bottom))


def need_product(width, top, bottom, factor, addend, total):
    """Refuse what is no width, no fraction from nought on, no row [57]."""
    need_width(width)
    need_fraction(top, bottom)
    if top < 0:
        raise NoFraction((top, bottom))
    if not is_short(factor) or not is_short(addend) or factor < 0 or addend < 0 or not is_between(total, 0, 64):
        raise NoForm((factor, addend, total))


def greatest_miss(n, m, a, b, top, bottom):
    """The greatest miss with the least x that has it [56], of a line whose third number may have any figures."""
    # The corners come with x rising, and of equal ones max tells the first.
    best = max(corner_points(n, m, a, b), key=lambda point: point[1] * bottom - point[0] * top)
    return (fraction(best[1] * bottom - best[0] * top, bottom), best[0])


def greatest_lack(n, m, a, b, top, bottom):
    """The greatest miss turned about, so how far the line lies at most beneath, with the least x that has it [56]."""
    return greatest_miss(n, -m, b - 1 - a, b, -top, bottom)


def greatest(n, m, a, b, top, bottom):
    """The greatest miss of a line, and the least number at which it is taken [56]."""
    need_line(n, m, a, b)
    need_fraction(top, bottom)
    return greatest_miss(n, m, a, b, top, bottom)


def least(n, m, a, b, top, bottom):
    """The least miss of a line, and the least number at which it is taken [56]."""
    need_line(n, m, a, b)
    need_fraction(top, bottom)
    lack = greatest_lack(n, m, a, b, top, bottom)
    return ((-lack[0][0], lack[0][1]), lack[1])


def miss_of(width, top, bottom, factor, addend, total):
    """The greatest miss of a row above and below, each with the least word that has it [57]."""
    need_product(width, top, bottom, factor, addend, total)
    last = (1 << width) - 1
    above = greatest_miss(last, factor, addend, 1 << total, top, bottom)
    below = greatest_lack(last, factor, addend, 1 << total, top, bottom)
    return (above[0], above[1], below[0], below[1])


def quotient_corners(width, top, bottom):
    """The points (x, quotient of top x by bottom) between which all others lie, from above and from below [58]."""
    last = (1 << width) - 1
    below = corner_points(last, -top, bottom - 1, bottom)
    return (corner_points(last, top, 0, bottom), [(point[0], -point[1]) for point in below])


def misfit(ends, row):
    """A word at which a row (factor, addend, total) tells no quotient, None where it fits [58]."""
    for point in ends[0]:
        if (point[1] << row[2]) - row[0] * point[0] > row[1]:
            return point[0]
    for point in ends[1]:
        if (point[1] << row[2]) - row[0] * point[0] <= row[1] - (1 << row[2]):
            return point[0]
    return None


def fits(width, top, bottom, factor, addend, total):
    """None where a row tells the quotient of top x by bottom for all words x, else a word at which it doesn't [58]."""
    need_product(width, top, bottom, factor, addend, total)
    return misfit(quotient_corners(width, top, bottom), (factor, addend, total))


def rows_to_try(width, top, bottom):
    """The rows among which the exact form is the first that fits [59]."""
    rows = []
    for total in range(width, 2 * width + 1):
        below = (top << total) // bottom
        above = -((-top << total) // bottom)
        if above < 1 << width:
            rows.append((above, 0, total))
        if below < 1 << width:
            rows.append((below, below, total))
    return rows


def exact_form(width, top, bottom):
    """The first row that fits a fraction up to 1, None where none does [59]."""
    need_width(width)
    if not is_between(bottom, 1, (1 << width) - 1) or not is_between(top, 0, bottom):
        raise NoFraction((top, bottom))
    ends = quotient_corners(width, top, bottom)
    for row in rows_to_try(width, top, bottom):
        if misfit(ends, row) is None:
            return row
    return None
