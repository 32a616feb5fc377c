import random
import unittest
from fractions import Fraction

from overwise.errors import NoForm, NoFraction, NoLine, NoWidth
from overwise.miss import exact_form, fits, greatest, least, miss_of
from tests.helper import NO_NUMBERS, NO_WIDTHS, Case, counted

MOST = 10 ** 20 - 1
NO_SHORTS = NO_NUMBERS + [MOST + 1, -MOST - 1, 10 ** 39, -(10 ** 39)]
NO_FROM_NOUGHT = NO_SHORTS + [-1, -MOST]
NO_FROM_ONE = NO_FROM_NOUGHT + [0]
NO_TOTALS = NO_NUMBERS + [-1, 65, 10 ** 39]
FRACTIONS = [(0, 1), (0, 6), (1, 1), (4, 4), (1, 2), (2, 4), (1, 3), (2, 3), (5, 7), (10, 14), (7, 5), (9, 1), (15, 16)]


def pair(number):
    return (number.numerator, number.denominator)


def walked(n, m, a, b, top, bottom):
    """The greatest and the least miss by a walk of all places, each with the least place that has it."""
    misses = [(m * x + a) // b - Fraction(x * top, bottom) for x in range(n + 1)]
    return ((pair(max(misses)), misses.index(max(misses))), (pair(min(misses)), misses.index(min(misses))))


def quotients(width, top, bottom):
    return [top * x // bottom for x in range(2 ** width)]


def row_tells(row, x):
    factor, addend, total = row
    return (factor * x + addend) // 2 ** total


def some_rows(width, top, bottom):
    """Rows that lie near a fraction, the right ones among them, and some that lie far off."""
    rows = [(0, 0, 0), (1, 0, 0), (0, 1, 0), (0, MOST, 64), (MOST, 0, 64), (MOST, MOST, 0), (2 ** width - 1, 2 ** width, width)]
    for total in (0, 1, width - 1, width, width + 3, 2 * width):
        below = top * 2 ** total // bottom
        for factor in (below - 1, below, below + 1, below + 2):
            for addend in (0, 1, factor, 2 ** total // 2, 2 ** total - 1, 2 ** total):
                if factor >= 0:
                    rows.append((factor, addend, total))
    return rows


class Misses(Case):
    def look_at(self, line, top, bottom):
        wanted = walked(*line, top, bottom)
        self.same(greatest(*line, top, bottom), wanted[0], line, top, bottom)
        self.same(least(*line, top, bottom), wanted[1], line, top, bottom)

    def test_small_lines(self):
        for n in range(6):
            for b in range(1, 7):
                for m in range(-b - 1, b + 2):
                    for a in range(-b, b + 1, 2):
                        for top, bottom in [(0, 1), (m, b), (2 * m, 2 * b), (-1, 2), (3, 4), (m + 1, b)]:
                            self.look_at((n, m, a, b), top, bottom)

    def test_some_lines(self):
        source = random.Random(56)
        for many in range(300):
            n, b = source.randrange(150), source.choice([source.randrange(1, 20), source.randrange(1, 900)])
            line = (n, source.randrange(-2000, 2001), source.randrange(-2000, 2001), b)
            times = source.randrange(1, 9)
            self.look_at(line, line[1] * times, b * times)
            self.look_at(line, source.randrange(-900, 901), source.randrange(1, 400))
            self.look_at(line, line[1] + source.randrange(-2, 3), b + source.randrange(3))

    def test_told(self):
        self.same(greatest(0, 5, 3, 2, 7, 3), ((1, 1), 0))
        self.same(least(0, 5, 3, 2, 7, 3), ((1, 1), 0))
        self.same(greatest(10, 1, 0, 3, 1, 3), ((0, 1), 0))
        self.same(least(10, 1, 0, 3, 1, 3), ((-2, 3), 2))
        self.same(least(10, 1, 0, 3, 2, 6), ((-2, 3), 2))
        self.same(greatest(10, -1, 0, 3, -2, 6), ((0, 1), 0))
        self.same(least(10, -1, 0, 3, -2, 6), ((-2, 3), 1))

    def test_great_lines(self):
        source = random.Random(57)
        for many in range(60):
            b = source.randrange(1, source.choice([10 ** 6, 10 ** 20]))
            line = (source.choice([2 ** 40, 2 ** 32 - 1]), source.randrange(-MOST, MOST + 1), source.randrange(-MOST, MOST + 1), b)
            top, bottom = source.choice([(line[1], b), (source.randrange(-MOST, MOST + 1), source.randrange(1, MOST + 1))])
            self.look_at_great(line, top, bottom, source)
        for line in [(2 ** 40, MOST, MOST, MOST), (2 ** 40, -MOST, -MOST, MOST), (2 ** 40, -MOST, -MOST, 1), (2 ** 40, MOST, MOST, 1)]:
            for top, bottom in [(MOST, MOST), (-MOST, 1), (MOST, 1), (-MOST, MOST), (0, MOST)]:
                self.look_at_great(line, top, bottom, source)

    def look_at_great(self, line, top, bottom, source):
        n, m, a, b = line
        above, one = counted(greatest, *line, top, bottom, most=30_000)
        below, other = counted(least, *line, top, bottom, most=30_000)
        self.same(above, pair((m * one + a) // b - Fraction(one * top, bottom)))
        self.same(below, pair((m * other + a) // b - Fraction(other * top, bottom)))
        places = [0, 1, 2, n - 1, n] + [source.randrange(n + 1) for many in range(20)]
        places += [x for near in (one, other) for x in range(near - 2, near + 3) if 0 <= x <= n]
        for x in places:
            miss = (m * x + a) // b - Fraction(x * top, bottom)
            self.assertTrue(Fraction(*below) <= miss <= Fraction(*above), (line, top, bottom, x))
            self.assertFalse(x < one and miss == Fraction(*above))
            self.assertFalse(x < other and miss == Fraction(*below))

    def test_the_miss_of_a_rounded_product(self):
        for b in (3, 7, 11, 641, 10 ** 9 + 7, 10 ** 19 + 1):
            for m in (1, 2, 5):
                n = 2 ** 40
                self.same(greatest(n, m, 0, b, m, b), ((0, 1), 0))
                if b < 2 ** 40:
                    x = -pow(m, -1, b) % b
                    self.same(least(n, m, 0, b, m, b), (pair(Fraction(1 - b, b)), x))

    def test_no_lines_first(self):
        for call in (greatest, least):
            for thing in NO_NUMBERS + [-1, 2 ** 40 + 1]:
                self.refused(NoLine, {"found": (thing, 1, 1, 1)}, call, thing, 1, 1, 1, None, None)
            for thing in NO_SHORTS:
                self.refused(NoLine, {"found": (5, thing, 1, 1)}, call, 5, thing, 1, 1, 1, 0)
                self.refused(NoLine, {"found": (5, 1, thing, 1)}, call, 5, 1, thing, 1, 1, 1)
            for thing in NO_FROM_ONE:
                self.refused(NoLine, {"found": (5, 1, 1, thing)}, call, 5, 1, 1, thing, 1, 1)

    def test_no_fractions_then(self):
        for call in (greatest, least):
            for thing in NO_SHORTS:
                self.refused(NoFraction, {"found": (thing, 3)}, call, 5, 1, 1, 1, thing, 3)
                self.refused(NoFraction, {"found": (thing, 0)}, call, 5, 1, 1, 1, thing, 0)
            for thing in NO_FROM_ONE:
                self.refused(NoFraction, {"found": (3, thing)}, call, 5, 1, 1, 1, 3, thing)
                self.refused(NoFraction, {"found": (-3, thing)}, call, 0, 1, 1, 1, -3, thing)


class MissesOfProducts(Case):
    def test_small_widths(self):
        for width in (4, 5, 6):
            for top, bottom in FRACTIONS:
                for row in some_rows(width, top, bottom)[::3 if width > 4 else 1]:
                    factor, addend, total = row
                    above, below = walked(2 ** width - 1, factor, addend, 2 ** total, top, bottom)
                    wanted = (above[0], above[1], (-below[0][0], below[0][1]), below[1])
                    self.same(miss_of(width, top, bottom, *row), wanted, width, top, bottom, row)

    def test_told(self):
        self.same(miss_of(4, 1, 3, 5, 0, 4), ((0, 1), 0, (1, 1), 3))
        self.same(miss_of(4, 1, 3, 11, 0, 5), ((0, 1), 0, (2, 3), 2))
        self.same(miss_of(4, 2, 6, 11, 0, 5), ((0, 1), 0, (2, 3), 2))
        self.same(miss_of(4, 0, 5, 0, 0, 0), ((0, 1), 0, (0, 1), 0))
        self.same(miss_of(4, 0, 5, 0, 7, 0), ((7, 1), 0, (-7, 1), 0))
        self.same(miss_of(32, 1, 10, 3435973837, 0, 35), ((0, 1), 0, (9, 10), 9))

    def test_great_widths(self):
        source = random.Random(58)
        for width in (16, 31, 32):
            for many in range(25):
                bottom = source.randrange(1, 2 ** width)
                top = source.randrange(bottom + 1)
                total = source.randrange(width, 65)
                row = (min(MOST, top * 2 ** total // bottom), source.choice([0, 1, 2 ** total // 2]), total)
                above, one, below, other = counted(miss_of, width, top, bottom, *row, most=40_000)
                self.same(above, pair(row_tells(row, one) - Fraction(one * top, bottom)))
                self.same(below, pair(Fraction(other * top, bottom) - row_tells(row, other)))
                for x in [0, 1, 2 ** width - 1, one - 1, other - 1] + [source.randrange(2 ** width) for some in range(15)]:
                    if 0 <= x < 2 ** width:
                        miss = row_tells(row, x) - Fraction(x * top, bottom)
                        self.assertTrue(-Fraction(*below) <= miss <= Fraction(*above))

    def test_within_the_steps(self):
        for row in [(MOST, MOST, 0), (MOST, MOST, 64), (0, 0, 64), (1, MOST, 64), (MOST, 0, 63)]:
            for top, bottom in [(MOST, MOST), (0, MOST), (MOST, 1), (1, MOST)]:
                counted(miss_of, 32, top, bottom, *row, most=60_000)
                counted(fits, 32, top, bottom, *row, most=60_000)


class Fitting(Case):
    def look_at(self, width, top, bottom, row, wanted):
        found = fits(width, top, bottom, *row)
        told = [row_tells(row, x) for x in range(2 ** width)]
        if told == wanted:
            self.assertIs(found, None, (width, top, bottom, row))
        else:
            self.assertIs(type(found), int, (width, top, bottom, row))
            self.assertTrue(0 <= found < 2 ** width and told[found] != wanted[found], (width, top, bottom, row, found))
        return told == wanted

    def test_small_widths(self):
        fitting = 0
        for width in (4, 5, 6):
            for top, bottom in FRACTIONS + [(1, 2 ** width), (3, 2 ** width - 1), (2 ** width, 3), (MOST, MOST), (1, MOST)]:
                wanted = quotients(width, top, bottom)
                for row in some_rows(width, top, bottom):
                    fitting += self.look_at(width, top, bottom, row, wanted)
        self.assertGreater(fitting, 100)

    def test_all_fractions_of_width_4(self):
        for bottom in range(1, 17):
            for top in range(18):
                wanted = quotients(4, top, bottom)
                for total in range(4, 9):
                    below = top * 2 ** total // bottom
                    for factor in (below, below + 1):
                        for addend in (0, 1, factor):
                            self.look_at(4, top, bottom, (factor, addend, total), wanted)

    def test_one_off(self):
        self.assertIs(fits(32, 1, 10, 3435973837, 0, 35), None)
        self.assertIs(fits(32, 1, 7, 0x124924925, 0, 35), None)
        for bottom, factor in [(10, 3435973836), (7, 0x124924924), (7, 0x124924926)]:
            row = (factor, 0, 35)
            x = fits(32, 1, bottom, *row)
            self.assertNotEqual(row_tells(row, x), x // bottom)

    def test_great_widths(self):
        source = random.Random(59)
        for width in (16, 31, 32):
            for many in range(40):
                bottom = source.randrange(1, 2 ** width)
                top = source.randrange(2 * bottom)
                row = (top * 2 ** 64 // bottom + 1, 0, 64)
                if row[0] > MOST:
                    continue
                # With so many figures behind the point the factor just above is right for each word of the width.
                self.assertIs(counted(fits, width, top, bottom, *row, most=40_000), None)
                for total in (width - 2, width, width + 1):
                    row = (top * 2 ** total // bottom + source.randrange(2), source.randrange(2), total)
                    x = fits(width, top, bottom, *row)
                    if x is not None:
                        self.assertNotEqual(row_tells(row, x), top * x // bottom)
                    else:
                        for word in [2 ** width - 1] + [source.randrange(2 ** width) for some in range(200)]:
                            self.assertEqual(row_tells(row, word), top * word // bottom)


class Refusals(Case):
    def both(self, kind, found, *things):
        self.refused(kind, {"found": found}, miss_of, *things)
        self.refused(kind, {"found": found}, fits, *things)

    def test_the_width_first(self):
        for thing in NO_WIDTHS:
            self.both(NoWidth, thing, thing, -1, 0, None, None, None)
            self.both(NoWidth, thing, thing, 1, 2, 1, 1, 1)

    def test_the_fraction_then(self):
        for thing in NO_FROM_NOUGHT:
            self.both(NoFraction, (thing, 3), 8, thing, 3, 1, 0, 8)
            self.both(NoFraction, (thing, 0), 8, thing, 0, None, None, None)
        for thing in NO_FROM_ONE:
            self.both(NoFraction, (3, thing), 8, 3, thing, 1, 0, 8)
            self.both(NoFraction, (0, thing), 8, 0, thing, -1, -1, -1)

    def test_the_row_last(self):
        for thing in NO_FROM_NOUGHT:
            self.both(NoForm, (thing, 0, 8), 8, 1, 3, thing, 0, 8)
            self.both(NoForm, (1, thing, 8), 8, 1, 3, 1, thing, 8)
            self.both(NoForm, (thing, thing, thing), 8, 1, 3, thing, thing, thing)
        for thing in NO_TOTALS:
            self.both(NoForm, (1, 0, thing), 8, 1, 3, 1, 0, thing)

    def test_the_ends_are_taken(self):
        for top, bottom in [(0, 1), (MOST, MOST), (MOST, 1), (0, MOST)]:
            for row in [(0, 0, 0), (MOST, MOST, 64), (MOST, MOST, 0), (0, MOST, 64)]:
                for width in (4, 32):
                    miss_of(width, top, bottom, *row)
                    fits(width, top, bottom, *row)


class ExactForms(Case):
    def first_that_fits(self, width, top, bottom):
        wanted = quotients(width, top, bottom)
        for total in range(width, 2 * width + 1):
            above = -(-top * 2 ** total // bottom)
            below = top * 2 ** total // bottom
            for row in ((above, 0, total), (below, below, total)):
                if row[0] < 2 ** width and [row_tells(row, x) for x in range(2 ** width)] == wanted:
                    return row
        return None

    def test_all_fractions_of_width_4(self):
        for bottom in range(1, 16):
            for top in range(bottom + 1):
                self.same(exact_form(4, top, bottom), self.first_that_fits(4, top, bottom), top, bottom)

    def test_some_fractions_of_other_widths(self):
        nothing = 0
        for width in (5, 6, 7):
            last = 2 ** width - 1
            for bottom in [1, 2, 3, 5, 6, 7, 9, 10, 11, 2 ** (width - 1), last - 2, last - 1, last]:
                for top in sorted({0, 1, 2, bottom // 3, bottom // 2, bottom // 2 + 1, bottom - 1, bottom}):
                    if top <= bottom:
                        wanted = self.first_that_fits(width, top, bottom)
                        nothing += wanted is None
                        self.same(exact_form(width, top, bottom), wanted, width, top, bottom)
        self.assertGreater(nothing, 5)

    def test_told(self):
        self.same(exact_form(4, 0, 1), (0, 0, 4))
        self.same(exact_form(4, 0, 15), (0, 0, 4))
        self.same(exact_form(32, 0, 2 ** 32 - 1), (0, 0, 32))
        self.same(exact_form(4, 1, 2), (8, 0, 4))
        self.same(exact_form(4, 2, 4), (8, 0, 4))
        self.same(exact_form(4, 1, 3), (5, 5, 4))
        self.same(exact_form(32, 1, 641), (6700417, 0, 32))
        self.assertIs(exact_form(4, 1, 1), None)
        self.assertIs(exact_form(4, 15, 15), None)

    def test_great_widths(self):
        source = random.Random(60)
        for width in (16, 31, 32):
            pairs = [(1, 3), (1, 7), (1, 10), (2, 3), (7, 10), (1, 2 ** width - 1), (2 ** width - 2, 2 ** width - 1), (5, 8)]
            for many in range(12):
                bottom = source.randrange(1, 2 ** width)
                pairs.append((source.randrange(bottom + 1), bottom))
            for top, bottom in pairs:
                self.look_at_great(width, top, bottom)

    def look_at_great(self, width, top, bottom):
        found = counted(exact_form, width, top, bottom, most=100_000)
        for total in range(width, 2 * width + 1):
            above = -(-top * 2 ** total // bottom)
            below = top * 2 ** total // bottom
            for row in ((above, 0, total), (below, below, total)):
                if row == found:
                    self.assertIs(fits(width, top, bottom, *row), None)
                    return
                if row[0] < 2 ** width:
                    x = fits(width, top, bottom, *row)
                    self.assertNotEqual(row_tells(row, x), top * x // bottom)
        self.assertIs(found, None)

    def test_the_width_first(self):
        for thing in NO_WIDTHS:
            self.refused(NoWidth, {"found": thing}, exact_form, thing, 1, 2)
            self.refused(NoWidth, {"found": thing}, exact_form, thing, None, 0)

    def test_no_fractions(self):
        for width in (4, 5, 32):
            for thing in NO_NUMBERS + [-1, 4, 10 ** 39, -(10 ** 39)]:
                self.refused(NoFraction, {"found": (thing, 3)}, exact_form, width, thing, 3)
            for thing in NO_NUMBERS + [0, -1, 2 ** width, 10 ** 39]:
                self.refused(NoFraction, {"found": (1, thing)}, exact_form, width, 1, thing)
                self.refused(NoFraction, {"found": (0, thing)}, exact_form, width, 0, thing)
                self.refused(NoFraction, {"found": (thing, thing)}, exact_form, width, thing, thing)

    def test_the_ends_are_taken(self):
        for width in (4, 5, 31, 32):
            last = 2 ** width - 1
            for top, bottom in [(0, 1), (1, 1), (0, last), (1, last), (last - 1, last), (last, last)]:
                self.look_at_great(width, top, bottom)


if __name__ == "__main__":
    unittest.main()
