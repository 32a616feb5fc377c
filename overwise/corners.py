"""Lines, the corners of the points beneath them, and papers that show that these are right."""

from overwise.errors import NoLine
from overwise.ratios import common_divisor
from overwise.words import is_between, is_whole


def is_short(thing):
    """Whether a thing, whatever it is, is a whole number of at most twenty figures [50]."""
    return is_between(thing, 1 - 10 ** 20, 10 ** 20 - 1)


def need_line(n, m, a, b):
    """Refuse four things that tell no line [50]."""
    if not is_between(n, 0, 2 ** 40) or not is_short(m) or not is_short(a) or not is_short(b) or b < 1:
        raise NoLine((n, m, a, b))


def height(n, m, a, b, x):
    """The height of a line at x [50]."""
    need_line(n, m, a, b)
    return (m * x + a) // b


def fall_rows(n, m, a, b):
    """The rows (step, drop, times) of the falls [52], of a line whose third number may have any figures."""
    rows = []
    x = 0
    rest = a % b
    step = 1
    drop = -m % b
    # The step far raises the rest by lack, modulo b. No step up to the greater of both lowers it by less than drop or
    # raises it by less than lack: so the next lesser drop comes of the two together, as in Euclid's way.
    far = 0
    lack = b
    while 0 < drop and 0 < rest:
        if rest < drop:
            far = far + lack // drop * step
            lack = lack % drop
            if lack == 0:
                return rows
            many = min(-((rest - drop) // lack), (drop - 1) // lack)
            step = step + many * far
            drop = drop - many * lack
        else:
            times = min(rest // drop, (n - x) // step)
            if times == 0:
                return rows
            rows.append((step, drop, times))
            x = x + times * step
            rest = rest - times * drop
    return rows


def falls(n, m, a, b):
    """The rows (step, drop, times) that lead along the corners from the left [52]."""
    need_line(n, m, a, b)
    return fall_rows(n, m, a, b)


def places_reached(n, m, a, b):
    """0, and each x that is reached behind a row of the falls [53]."""
    places = [0]
    for row in fall_rows(n, m, a, b):
        places.append(places[-1] + row[0] * row[2])
    return places


def corner_points(n, m, a, b):
    """The corners [51], of a line whose third number may have any figures."""
    from_left = places_reached(n, m, a, b)
    from_right = [n - x for x in places_reached(n, -m, m * n + a, b)]
    return [(x, (m * x + a) // b) for x in sorted(set(from_left + from_right))]


def corners(n, m, a, b):
    """The corners along the upper border of all points of a line [51]."""
    need_line(n, m, a, b)
    return corner_points(n, m, a, b)


def inverse_by(number, bottom):
    """The number from 0 to bottom - 1 that times this one has the rest 1 by bottom; the two have no common divisor."""
    rest = number % bottom
    later_rest = bottom
    worth = 1
    later_worth = 0
    while later_rest != 0:
        many = rest // later_rest
        next_rest = rest - many * later_rest
        next_worth = worth - many * later_worth
        rest = later_rest
        worth = later_worth
        later_rest = next_rest
        later_worth = next_worth
    return worth % bottom


def side_between(one, other):
    """What the paper tells of the side from a corner to the next one [54]."""
    across = other[0] - one[0]
    up = other[1] - one[1]
    g = common_divisor(across, abs(up))
    ux = across // g
    uy = up // g
    tx = -inverse_by(uy, ux) % ux
    return (one[0], one[1], g, ux, uy, tx, (uy * tx + 1) // ux)


def paper(n, m, a, b):
    """The paper that shows that the corners of a line are right [54]."""
    need_line(n, m, a, b)
    points = corner_points(n, m, a, b)
    return [side_between(points[k], points[k + 1]) for k in range(len(points) - 1)]


def is_seven(thing):
    """Whether a thing, whatever it is, is a tuple of seven whole numbers."""
    return isinstance(thing, tuple) and len(thing) == 7 and all([is_whole(number) for number in thing])


def end_of(side):
    """The point at which a side ends."""
    return (side[0] + side[2] * side[3], side[1] + side[2] * side[4])


def is_above(m, a, b, x, y):
    """Whether a point lies above a line [50]."""
    return y * b > m * x + a


def is_side(m, a, b, side):
    """Whether seven numbers tell a side that no point of the line lies above [55]."""
    x = side[0]
    y = side[1]
    g = side[2]
    ux = side[3]
    uy = side[4]
    tx = side[5]
    ty = side[6]
    if g < 1 or ux < 1 or ux * ty - uy * tx != 1 or not 0 <= tx < ux:
        return False
    end = end_of(side)
    if y != (m * x + a) // b or end[1] != (m * end[0] + a) // b:
        return False
    return is_above(m, a, b, x + tx, y + ty) and is_above(m, a, b, end[0] - ux + tx, end[1] - uy + ty)


def goes_on(one, other):
    """Whether a side begins where the one ahead ends, and is strictly less steep [55]."""
    return (other[0], other[1]) == end_of(one) and other[3] * one[4] > other[4] * one[3]


def is_paper(n, m, a, b, thing):
    """Whether a thing, whatever it is, is a paper of a line [55]."""
    need_line(n, m, a, b)
    if not isinstance(thing, list) or not all([is_seven(side) for side in thing]):
        return False
    if n == 0 or thing == []:
        return n == 0 and thing == []
    if thing[0][0] != 0 or end_of(thing[-1])[0] != n:
        return False
    if not all([is_side(m, a, b, side) for side in thing]):
        return False
    return all([goes_on(thing[k], thing[k + 1]) for k in range(len(thing) - 1)])
