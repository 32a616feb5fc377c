import unittest

from overwise.errors import NoDivisor, NoWidth
from overwise.exact import (
    exact, exact_quotient, inverse, inverse_steps, is_multiple, multiple_of, rest_of, turned_right,
)
from tests.helper import NO_WIDTHS, Case, counted, great_divisors, no_divisors

GREAT_WIDTHS = (16, 31, 32)


def some_words(width, d):
    """Words of a great width: its ends, and those about some multiples of a divisor."""
    size = 2 ** width
    found = {0, 1, 2, size - 1, size - 2, size // 2 - 1, size // 2, size // 2 + 1, size // 3, size // 7, d, d // 2}
    for many in (1, 2, 3, size // d // 2, size // d, (size - 1) // d):
        found |= {many * d - 1, many * d, many * d + 1}
    return sorted(x for x in found if 0 <= x < size)


def odd_part(d):
    while d % 2 == 0:
        d //= 2
    return d


class Rests(Case):
    def test_by_the_right_quotient(self):
        for width in range(4, 8):
            for d in range(1, 2 ** width):
                for x in range(2 ** width):
                    self.same(rest_of(width, x, d, x // d), x % d, width, x, d)
        for width in GREAT_WIDTHS:
            for d in great_divisors(width):
                for x in some_words(width, d):
                    self.same(rest_of(width, x, d, x // d), x % d, width, x, d)

    def test_by_other_quotients(self):
        for width in (4, 5):
            for d in range(1, 2 ** width):
                for x in range(2 ** width):
                    for q in range(2 ** width):
                        self.same(rest_of(width, x, d, q), (x - q * d) % 2 ** width, width, x, d, q)
        for width in GREAT_WIDTHS:
            for d in great_divisors(width)[::5]:
                for x in some_words(width, d)[::3]:
                    for q in (0, 1, x // d + 1, 2 ** (width - 1), 2 ** width - 1):
                        self.same(rest_of(width, x, d, q), (x - q * d) % 2 ** width, width, x, d, q)

    def test_told(self):
        self.same(rest_of(8, 200, 7, 28), 4)
        self.same(rest_of(8, 200, 7, 29), 253)
        self.same(rest_of(8, 200, 6, 33), 2)
        self.same(rest_of(32, 2 ** 32 - 1, 10, 429496729), 5)


class Inverses(Case):
    def look_at(self, width, d):
        size = 2 ** width
        found = inverse(width, d)
        self.assertIs(type(found), int)
        self.assertTrue(0 <= found < size and found * d % size == 1, (width, d, found))
        steps = inverse_steps(width, d)
        self.assertIs(type(steps), list)
        self.same(steps[0], d)
        self.same(steps[-1], found)
        self.assertLessEqual(len(steps), 5)
        for place, word in enumerate(steps):
            self.assertTrue(0 <= word < size)
            known = min(size, 2 ** (3 * 2 ** place))
            self.assertEqual(word * d % known, 1, (width, d, steps))
            if place + 1 < len(steps):
                self.assertNotEqual(word * d % size, 1, (width, d, steps))
                self.same(steps[place + 1], word * (2 - d * word) % size, width, d)

    def test_small_widths(self):
        for width in range(4, 8):
            for d in range(1, 2 ** width, 2):
                self.look_at(width, d)

    def test_great_widths(self):
        for width in GREAT_WIDTHS:
            for d in great_divisors(width):
                if d % 2 == 1:
                    self.look_at(width, d)

    def test_told(self):
        self.same(inverse_steps(4, 1), [1])
        self.same(inverse_steps(4, 15), [15])
        self.same(inverse_steps(4, 3), [3, 11])
        self.same(inverse(8, 7), 183)
        self.same(inverse(32, 3), 0xAAAAAAAB)
        self.same(len(inverse_steps(32, 3)), 5)
        self.same(inverse(32, 2 ** 32 - 1), 2 ** 32 - 1)

    def test_even_ones_are_refused(self):
        for width in (4, 5, 16, 31, 32):
            for d in (2, 4, 6, 2 ** (width - 1), 2 ** width - 2):
                self.refused(NoDivisor, {"found": d}, inverse, width, d)
                self.refused(NoDivisor, {"found": d}, inverse_steps, width, d)

    def test_new_each_time(self):
        self.fresh(inverse_steps, 32, 7)


class ExactQuotients(Case):
    def look_at(self, width, d, words):
        size = 2 ** width
        odd = odd_part(d)
        numbers = exact(width, d)
        twos, found = numbers
        self.same(numbers, (twos, found))
        self.assertEqual({type(twos), type(found)}, {int})
        self.assertTrue(2 ** twos * odd == d and 0 <= found < size and found * odd % size == 1, (width, d, numbers))
        for x in words:
            if x % d == 0:
                self.same(exact_quotient(width, d, x), x // d, width, d, x)
            else:
                self.same(exact_quotient(width, d, x), x // 2 ** twos * found % size, width, d, x)

    def test_small_widths(self):
        for width in range(4, 8):
            for d in range(1, 2 ** width):
                self.look_at(width, d, range(2 ** width))

    def test_great_widths(self):
        for width in GREAT_WIDTHS:
            for d in great_divisors(width):
                self.look_at(width, d, some_words(width, d))

    def test_told(self):
        self.same(exact(8, 12), (2, 171))
        self.same(exact(8, 128), (7, 1))
        self.same(exact(32, 1), (0, 1))
        self.same(exact_quotient(8, 12, 240), 20)
        self.same(exact_quotient(8, 12, 13), 1)
        self.same(exact_quotient(8, 12, 19), 172)


class Multiples(Case):
    def test_turned_right(self):
        for width in range(4, 8):
            for x in range(2 ** width):
                for k in range(width):
                    figures = format(x, "b").zfill(width)
                    turned = figures[width - k:] + figures[:width - k]
                    self.same(turned_right(width, x, k), int(turned, 2), width, x, k)
        for width in GREAT_WIDTHS:
            for x in some_words(width, 7):
                figures = format(x, "b").zfill(width)
                for k in (0, 1, 2, width // 2, width - 2, width - 1):
                    turned = figures[width - k:] + figures[:width - k]
                    self.same(turned_right(width, x, k), int(turned, 2), width, x, k)

    def test_turned_right_told(self):
        self.same(turned_right(4, 3, 1), 9)
        self.same(turned_right(4, 13, 0), 13)
        self.same(turned_right(4, 9, 3), 3)
        self.same(turned_right(32, 1, 31), 2)
        self.same(turned_right(32, 1, 1), 2 ** 31)

    def look_at(self, width, d, words):
        size = 2 ** width
        numbers = multiple_of(width, d)
        twos, found = exact(width, d)
        self.same(numbers, (found, twos, (size - 1) // d), width, d)
        for x in words:
            self.same(is_multiple(width, d, x), x % d == 0, width, d, x)

    def test_small_widths(self):
        for width in range(4, 8):
            for d in range(1, 2 ** width):
                self.look_at(width, d, range(2 ** width))

    def test_great_widths(self):
        for width in GREAT_WIDTHS:
            for d in great_divisors(width):
                self.look_at(width, d, some_words(width, d))

    def test_told(self):
        self.same(multiple_of(8, 12), (171, 2, 21))
        self.same(multiple_of(4, 15), (15, 0, 1))
        self.same(multiple_of(4, 8), (1, 3, 1))
        self.assertIs(is_multiple(8, 12, 0), True)
        self.assertIs(is_multiple(8, 12, 252), True)
        self.assertIs(is_multiple(8, 12, 254), False)


class Refusals(Case):
    def each(self, width, d):
        return [
            (rest_of, (width, 5, d, 1)), (inverse_steps, (width, d)), (inverse, (width, d)), (exact, (width, d)),
            (exact_quotient, (width, d, 5)), (multiple_of, (width, d)), (is_multiple, (width, d, 5)),
        ]

    def test_the_width_first(self):
        for thing in NO_WIDTHS:
            for d in (3, 2, 0, None):
                for call, things in self.each(thing, d):
                    self.refused(NoWidth, {"found": thing}, call, *things)
            self.refused(NoWidth, {"found": thing}, turned_right, thing, 5, 1)

    def test_no_divisors(self):
        for width in (4, 5, 16, 31, 32):
            for thing in no_divisors(width):
                for call, things in self.each(width, thing):
                    self.refused(NoDivisor, {"found": thing}, call, *things)

    def test_the_ends_are_taken(self):
        for width in range(4, 33):
            for d in (1, 3, 2 ** (width - 1) + 1, 2 ** width - 1):
                for call, things in self.each(width, d):
                    counted(call, *things, most=2000)
            for d in (2, 2 ** (width - 1), 2 ** width - 2):
                for call, things in self.each(width, d):
                    if call not in (inverse_steps, inverse):
                        counted(call, *things, most=2000)


if __name__ == "__main__":
    unittest.main()
