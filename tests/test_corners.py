import random
import unittest
from math import gcd

from overwise.corners import corners, falls, height, is_paper, paper
from overwise.errors import NoLine
from tests.helper import NO_NUMBERS, Case, counted

MOST = 10 ** 20 - 1
NO_NS = NO_NUMBERS + [-1, 2 ** 40 + 1, 10 ** 39, -(10 ** 39)]
NO_BS = NO_NUMBERS + [0, -1, -MOST, MOST + 1, 10 ** 39, -(10 ** 39)]
NO_SHORTS = NO_NUMBERS + [MOST + 1, -MOST - 1, 10 ** 39, -(10 ** 39)]
TOLD = [
    (0, 0, 0, 1), (0, 3, -5, 7), (1, 3, 2, 7), (10, 0, 0, 1), (10, 0, 4, 5), (10, 5, 0, 1), (10, -5, 3, 1), (6, 2, 0, 3),
    (12, 3, 2, 7), (12, -3, 2, 7), (20, 5, 7, 13), (20, -5, -7, 13), (40, 12, 30, 31), (40, 19, 30, 31),
]


def border(n, m, a, b):
    """The corners by a walk of all places and a search for the upper border."""
    kept = []
    for x in range(n + 1):
        point = (x, (m * x + a) // b)
        while len(kept) > 1 and turns_up(kept[-2], kept[-1], point):
            kept.pop()
        kept.append(point)
    return kept


def turns_up(first, middle, last):
    """Whether the middle one of three points is no corner: it lies on or beneath the side from the first to the last."""
    across, up = middle[0] - first[0], middle[1] - first[1]
    return across * (last[1] - first[1]) >= up * (last[0] - first[0])


def first_within(factor, size, low, high):
    """The least s from 0 on for which factor * s modulo size is from low to high, or None."""
    if low == 0:
        return 0
    factor %= size
    if factor == 0:
        return None
    s = -(-low // factor)
    if s * factor <= high:
        return s
    turns = first_within(size, factor, -high % factor, -low % factor)
    return None if turns is None else -(-(low + size * turns) // factor)


def searched_falls(n, m, a, b):
    """The falls as told, each step searched for by itself."""
    x, rest, rows = 0, a % b, []
    while rest > 0:
        step = first_within(-m, b, 1, rest)
        if step is None or x + step > n:
            break
        drop = -m * step % b
        times = min(rest // drop, (n - x) // step)
        rows.append((step, drop, times))
        x, rest = x + times * step, rest - times * drop
    return rows


def side_of(one, other):
    """What the paper tells of a side, the pair found by Python's own inverse."""
    across, up = other[0] - one[0], other[1] - one[1]
    g = gcd(across, up)
    ux, uy = across // g, up // g
    tx = -pow(uy, -1, ux) % ux if ux > 1 else 0
    return (one[0], one[1], g, ux, uy, tx, (1 + uy * tx) // ux)


def small_lines():
    for n in range(9):
        for b in range(1, 10):
            for m in range(-b - 1, b + 2):
                for a in range(-b, b + 1):
                    yield (n, m, a, b)


def some_lines():
    """Lines of some hundred places."""
    source = random.Random(50)
    for many in range(400):
        n, b = source.randrange(400), source.choice([source.randrange(1, 60), source.randrange(1, 2000)])
        yield (n, source.randrange(-3000, 3001), source.randrange(-5000, 5001), b)


def great_lines():
    """Lines with the greatest numbers that are handed in, and some between."""
    source = random.Random(51)
    yield from [
        (2 ** 40, MOST, MOST, MOST), (2 ** 40, -MOST, -MOST, MOST), (2 ** 40, MOST - 1, 0, MOST), (2 ** 40, 1, 0, MOST),
        (2 ** 40, 1 - MOST, MOST, MOST), (2 ** 40, 1, MOST - 1, MOST), (2 ** 40, -1, MOST - 1, MOST), (0, MOST, MOST, MOST),
        (2 ** 40, 12200160415121876738, 19740274219868223166, 19740274219868223167), (2 ** 40, MOST, -MOST, 1),
        (2 ** 40, 7540113804746346429, 12200160415121876737, 12200160415121876738), (2 ** 40, 5, 2, 7), (2 ** 40, 0, 5, 9),
        (2 ** 40 - 1, 2 ** 40 - 2, 2 ** 40 - 2, 2 ** 40 - 1), (2 ** 40, 2 ** 40 + 1, 2 ** 40 - 1, 2 ** 41),
    ]
    for many in range(150):
        b = source.randrange(1, source.choice([10 ** 6, 10 ** 12, 10 ** 20]))
        n = source.choice([2 ** 40, 2 ** 32 - 1, source.randrange(2 ** 40)])
        yield (n, source.randrange(-MOST, MOST + 1), source.randrange(-MOST, MOST + 1), b)


def shows(n, m, a, b, thing):
    """Whether the paper of a great line shows its corners, looked at here once more."""
    x, y, steep = 0, a // b, None
    for side in thing:
        if side[:2] != (x, y):
            return False
        g, ux, uy, tx, ty = side[2:]
        if g < 1 or ux < 1 or gcd(ux, uy) != 1 or ux * ty - uy * tx != 1 or not 0 <= tx < ux:
            return False
        if steep is not None and not uy * steep[0] < steep[1] * ux:
            return False
        for times in (0, g - 1):
            if (y + ty + times * uy) * b <= m * (x + tx + times * ux) + a:
                return False
        x, y, steep = x + g * ux, y + g * uy, (ux, uy)
        if y != (m * x + a) // b:
            return False
    return x == n


class Heights(Case):
    def test_walked(self):
        for n, m, a, b in TOLD:
            for x in range(n + 1):
                y = height(n, m, a, b, x)
                self.assertIs(type(y), int)
                self.assertTrue(y * b <= m * x + a < (y + 1) * b, (n, m, a, b, x))

    def test_told(self):
        self.same(height(10, 3, 2, 7, 10), 4)
        self.same(height(10, -3, 2, 7, 10), -4)
        self.same(height(10, 0, -1, 7, 3), -1)
        self.same(height(2 ** 40, MOST, MOST, 1, 2 ** 40), MOST * (2 ** 40 + 1))
        self.same(height(2 ** 40, -MOST, -MOST, MOST, 2 ** 40), -(2 ** 40) - 1)


class Corners(Case):
    def test_small_lines(self):
        for line in small_lines():
            self.same(corners(*line), border(*line), line)

    def test_some_lines(self):
        for line in list(some_lines()) + TOLD:
            self.same(corners(*line), border(*line), line)

    def test_told(self):
        self.same(corners(0, 3, -5, 7), [(0, -1)])
        self.same(corners(10, 0, 4, 5), [(0, 0), (10, 0)])
        self.same(corners(10, -5, 3, 1), [(0, 3), (10, -47)])
        self.same(corners(6, 2, 0, 3), [(0, 0), (6, 4)])
        self.same(corners(7, 2, 0, 3), [(0, 0), (6, 4), (7, 4)])
        self.same(corners(7, 2, 2, 3), [(0, 0), (2, 2), (5, 4), (7, 5)])

    def test_great_lines(self):
        source = random.Random(52)
        for n, m, a, b in great_lines():
            found = counted(corners, n, m, a, b, most=20_000)
            self.assertIs(type(found), list)
            self.assertEqual({type(point) for point in found}, {tuple})
            self.assertEqual((found[0][0], found[-1][0]), (0, n))
            self.assertLessEqual(len(found), 2 * (b - 1).bit_length() + 2)
            self.assertEqual(found, [(x, (m * x + a) // b) for x, y in found])
            for k in range(len(found) - 1):
                self.assertLess(found[k][0], found[k + 1][0])
            for k in range(len(found) - 2):
                self.assertFalse(turns_up(*found[k:k + 3]), (n, m, a, b))
            places = [source.randrange(n + 1) for many in range(20)]
            places += [x + off for x, y in found for off in (-1, 1) if 0 <= x + off <= n]
            for x in places:
                self.look_beneath(found, x, (m * x + a) // b, (n, m, a, b))

    def look_beneath(self, found, x, y, line):
        """No side is beneath the point of the line."""
        for one, other in zip(found, found[1:]):
            if one[0] <= x <= other[0]:
                across, up = other[0] - one[0], other[1] - one[1]
                self.assertLessEqual(across * (y - one[1]), up * (x - one[0]), (line, x))

    def test_new_each_time(self):
        self.fresh(corners, 40, 19, 30, 31)


class Falls(Case):
    def least_step(self, m, b, rest):
        steps = [step for step in range(1, b + 1) if 1 <= -m * step % b <= rest]
        return steps[0] if steps else None

    def walked(self, n, m, a, b):
        """The falls by trying all steps, and going them one by one."""
        x, rows = 0, []
        while True:
            rest = (m * x + a) % b
            step = self.least_step(m, b, rest)
            if step is None or x + step > n:
                return rows
            drop, times = -m * step % b, 0
            while drop <= rest and x + step <= n:
                x, rest, times = x + step, rest - drop, times + 1
            rows.append((step, drop, times))

    def test_small_lines(self):
        for line in small_lines():
            rows = self.walked(*line)
            self.same(searched_falls(*line), rows, line)
            self.same(falls(*line), rows, line)

    def test_some_lines(self):
        for line in list(some_lines()) + TOLD:
            self.same(falls(*line), searched_falls(*line), line)

    def test_great_lines(self):
        for n, m, a, b in great_lines():
            rows = counted(falls, n, m, a, b, most=10_000)
            self.same(rows, searched_falls(n, m, a, b), (n, m, a, b))
            self.assertLessEqual(len(rows), (b - 1).bit_length())

    def test_what_the_rows_keep_to(self):
        for n, m, a, b in list(some_lines()) + list(great_lines()):
            rows = falls(n, m, a, b)
            self.assertLessEqual(len(rows), (b - 1).bit_length())
            x, rest = 0, a % b
            reached = [0]
            for place, (step, drop, times) in enumerate(rows):
                ahead = rest
                x, rest = x + step * times, rest - drop * times
                reached.append(x)
                self.assertTrue(times >= 1 and x <= n and rest == (m * x + a) % b)
                if place + 1 < len(rows):
                    self.assertLess(2 * rest, ahead)
                    self.assertTrue(step < rows[place + 1][0] and drop > rows[place + 1][1])
            self.assertTrue(set(reached) <= {point[0] for point in corners(n, m, a, b)})

    def test_told(self):
        self.same(falls(0, 5, 3, 7), [])
        self.same(falls(10, 0, 4, 5), [])
        self.same(falls(10, 5, 4, 5), [])
        self.same(falls(10, 3, 0, 7), [])
        self.same(falls(10, 5, 3, 1), [])
        self.same(falls(10, -1, 6, 7), [(1, 1, 6)])
        self.same(falls(6, -1, 6, 7), [(1, 1, 6)])
        self.same(falls(5, -1, 6, 7), [(1, 1, 5)])
        self.same(falls(10, 2, 2, 7), [(3, 1, 2)])
        self.same(falls(6, 2, 2, 7), [(3, 1, 2)])
        self.same(falls(5, 2, 2, 7), [(3, 1, 1)])
        self.same(falls(3, 2, 2, 7), [(3, 1, 1)])
        self.same(falls(2, 2, 2, 7), [])

    def test_new_each_time(self):
        self.fresh(falls, 40, 19, 30, 31)


class Papers(Case):
    def test_small_lines(self):
        for line in small_lines():
            points = border(*line)
            wanted = [side_of(one, other) for one, other in zip(points, points[1:])]
            self.same(paper(*line), wanted, line)
            self.assertIs(is_paper(*line, wanted), True, line)

    def test_some_lines(self):
        for line in list(some_lines()) + TOLD:
            points = border(*line)
            wanted = [side_of(one, other) for one, other in zip(points, points[1:])]
            self.same(paper(*line), wanted, line)
            self.assertIs(is_paper(*line, wanted), True, line)

    def test_great_lines(self):
        for line in great_lines():
            found = counted(paper, *line, most=40_000)
            points = corners(*line)
            self.same(found, [side_of(one, other) for one, other in zip(points, points[1:])], line)
            self.assertTrue(shows(*line, found), line)
            self.assertIs(counted(is_paper, *line, found, most=20_000), True, line)

    def test_told(self):
        self.same(paper(0, 3, -5, 7), [])
        self.same(paper(6, 2, 0, 3), [(0, 0, 2, 3, 2, 1, 1)])
        self.same(paper(10, -5, 3, 1), [(0, 3, 10, 1, -5, 0, 1)])
        self.same(paper(7, 2, 2, 3), [(0, 0, 2, 1, 1, 0, 1), (2, 2, 1, 3, 2, 1, 1), (5, 4, 1, 2, 1, 1, 1)])

    def test_new_each_time(self):
        self.fresh(paper, 40, 19, 30, 31)


class WhatIsAPaper(Case):
    def none_of(self, line, right, things):
        for thing in things:
            if thing != right or not isinstance(thing, list):
                self.assertIs(is_paper(*line, thing), False, (line, thing))

    def test_one_number_changed(self):
        for line in TOLD + list(some_lines())[::20] + list(great_lines())[::10]:
            right = paper(*line)
            for place, side in enumerate(right):
                for field in range(7):
                    for off in (-MOST, -2, -1, 1, 2, side[3], -side[3], MOST):
                        wrong = list(side)
                        wrong[field] += off
                        self.none_of(line, right, [right[:place] + [tuple(wrong)] + right[place + 1:]])
                    for thing in (None, "1", [1], (1,), True, False):
                        wrong = list(side)
                        wrong[field] = thing
                        changed = right[:place] + [tuple(wrong)] + right[place + 1:]
                        self.assertIs(is_paper(*line, changed), False, (line, changed))

    def test_pairs_moved_along_the_side(self):
        for line in TOLD:
            right = paper(*line)
            for place, (x, y, g, ux, uy, tx, ty) in enumerate(right):
                for times in (-2, -1, 1, 2):
                    moved = (x, y, g, ux, uy, tx + times * ux, ty + times * uy)
                    self.none_of(line, right, [right[:place] + [moved] + right[place + 1:]])

    def test_sides_left_out_put_in_and_in_another_order(self):
        for line in TOLD + list(some_lines())[::20] + list(great_lines())[::10]:
            right = paper(*line)
            self.none_of(line, right, [right[::-1], right + right, right[1:], right[:-1], [], tuple(right), [right]])
            for place, side in enumerate(right):
                self.none_of(line, right, [
                    right[:place] + right[place + 1:], right[:place] + [side] + right[place:], right[:place],
                    right[:place] + [side[:6]] + right[place + 1:], right[:place] + [side + (0,)] + right[place + 1:],
                    right[:place] + [list(side)] + right[place + 1:], right[place:],
                ])
            for place in range(len(right) - 1):
                self.none_of(line, right, [right[:place] + [right[place + 1], right[place]] + right[place + 2:]])

    def test_a_side_cut_in_two(self):
        for line in TOLD + list(some_lines())[::20] + list(great_lines())[::10]:
            right = paper(*line)
            for place, (x, y, g, ux, uy, tx, ty) in enumerate(right):
                for first in {1, g // 2, g - 1} - {0, g}:
                    parts = [(x, y, first, ux, uy, tx, ty), (x + first * ux, y + first * uy, g - first, ux, uy, tx, ty)]
                    self.none_of(line, right, [right[:place] + parts + right[place + 1:]])

    def test_two_sides_joined(self):
        for line in TOLD + list(some_lines())[::5] + list(great_lines())[::10]:
            right, points = paper(*line), corners(*line)
            for place in range(len(points) - 2):
                joined = side_of(points[place], points[place + 2])
                self.none_of(line, right, [right[:place] + [joined] + right[place + 2:]])

    def test_all_rows_of_points_of_small_lines(self):
        for n in range(1, 7):
            for m, a, b in [(0, 0, 1), (3, 2, 7), (-3, 6, 7), (4, 3, 7), (5, 7, 9), (-2, -1, 5), (7, 0, 11), (1, 3, 4)]:
                right = border(n, m, a, b)
                for chosen in range(2 ** (n - 1)):
                    places = [0] + [x for x in range(1, n) if chosen >> (x - 1) & 1] + [n]
                    points = [(x, (m * x + a) // b) for x in places]
                    thing = [side_of(one, other) for one, other in zip(points, points[1:])]
                    self.assertIs(is_paper(n, m, a, b, thing), points == right, (n, m, a, b, points))

    def test_rows_of_points_that_are_none_of_the_line(self):
        for line in TOLD[3:] + list(some_lines())[::20]:
            right, points = paper(*line), corners(*line)
            for off in (-1, 1):
                raised = [(x, y + off) for x, y in points]
                self.none_of(line, right, [[side_of(one, other) for one, other in zip(raised, raised[1:])]])
                longer = points[:-1] + [(points[-1][0] + 1, points[-1][1])]
                self.none_of(line, right, [[side_of(one, other) for one, other in zip(longer, longer[1:])]])

    def test_one_point_off_the_line(self):
        for line in TOLD + list(some_lines())[::5]:
            right, points = paper(*line), corners(*line)
            for place, (x, y) in enumerate(points):
                for off in (-2, -1, 1, 2):
                    moved = points[:place] + [(x, y + off)] + points[place + 1:]
                    self.none_of(line, right, [[side_of(one, other) for one, other in zip(moved, moved[1:])]])

    def test_sides_of_no_length_and_backward_ones(self):
        """Put in between two sides, with a steepness between theirs, they break nothing but that g and ux are from 1 on."""
        for line in TOLD + list(some_lines())[::5]:
            right = paper(*line)
            for place in range(len(right) + 1):
                x, y = (0, line[2] // line[3]) if place == 0 else corners(*line)[place]
                ahead = right[place - 1][3:5] if place > 0 else (0, 1)
                behind = right[place][3:5] if place < len(right) else (0, -1)
                ux, uy = ahead[0] + behind[0], ahead[1] + behind[1]
                ux, uy = (ux, uy) if ux > 0 else (1, 0)
                part = side_of((x, y), (x + ux, y + uy))[3:]
                self.none_of(line, right, [right[:place] + [(x, y, g) + part] + right[place:] for g in (0, -1, -2)])
                turned = (-part[0], -part[1], -part[2], -part[3])
                self.none_of(line, right, [right[:place] + [(x, y, g) + turned] + right[place:] for g in (0, -1)])

    def test_a_paper_of_another_line(self):
        for n, m, a, b in TOLD[8:]:
            right = paper(n, m, a, b)
            for other in [(n + 1, m, a, b), (n - 1, m, a, b), (n, m + 1, a, b), (n, m, a + b, b), (n, m, a, b + 4)]:
                self.assertIs(is_paper(*other, right), paper(*other) == right)

    def test_other_things(self):
        for line in TOLD:
            right = paper(*line)
            self.none_of(line, right, NO_NUMBERS + [0, 1, -1, 10 ** 39, [None], [[]], [()], [(0,) * 7], ((0,) * 7,)])
            self.assertIs(is_paper(*line, []), line[0] == 0)

    def test_the_thing_stays_as_it_was(self):
        for line in TOLD:
            thing = paper(*line)
            kept = list(thing)
            is_paper(*line, thing)
            self.same(thing, kept)


class Refusals(Case):
    def each_refused(self, *line):
        for call, behind in [(height, (0,)), (corners, ()), (falls, ()), (paper, ()), (is_paper, ([],)), (is_paper, (None,))]:
            self.refused(NoLine, {"found": line}, call, *line, *behind)

    def test_no_lines(self):
        for thing in NO_NS:
            self.each_refused(thing, 3, 2, 7)
        for thing in NO_SHORTS:
            self.each_refused(10, thing, 2, 7)
            self.each_refused(10, 3, thing, 7)
        for thing in NO_BS:
            self.each_refused(10, 3, 2, thing)
            self.each_refused(0, 0, 0, thing)

    def test_several_things_that_are_none(self):
        self.each_refused(None, None, None, None)
        self.each_refused([1, [2]], {"a": (1,)}, "x", True)
        self.each_refused(-1, 10 ** 20, -(10 ** 20), 0)

    def test_the_ends_are_taken(self):
        for line in [(2 ** 40, MOST, MOST, MOST), (2 ** 40, -MOST, -MOST, 1), (0, MOST, -MOST, 1), (0, -MOST, MOST, MOST)]:
            for x in (0, line[0]):
                self.same(height(*line, x), (line[1] * x + line[2]) // line[3])
            self.assertIs(is_paper(*line, paper(*line)), True)


if __name__ == "__main__":
    unittest.main()
