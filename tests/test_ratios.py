import unittest
from fractions import Fraction

from overwise.errors import NoFraction, NothingBy
from overwise.ratios import by_twos, fraction, is_fraction, less, minus, over, plus, raised, times
from tests.helper import NO_NUMBERS, Case, counted, same

# The greatest numbers that are handed in: 700 figures.
GREAT = 10 ** 700 - 1
SOME = [
    (0, 1), (1, 1), (-1, 1), (1, 2), (-1, 2), (2, 3), (-2, 3), (7, 4), (-7, 4), (22, 7), (-355, 113), (5, 1), (-6, 1),
    (3, 2 ** 40), (-3, 2 ** 40), (10 ** 39, 7), (1, 10 ** 39),
]
LARGE = [(GREAT, 1), (-GREAT, 1), (1, GREAT), (-1, GREAT), (GREAT, GREAT - 1), (1 - GREAT, GREAT), (GREAT - 2, 2 ** 2000)]


def fibonacci(figures):
    """Two neighbours of this row have a common divisor that takes the most steps to find."""
    a, b = 1, 1
    while b < 10 ** (figures - 1):
        a, b = b, a + b
    return a, b


def pair(value):
    return (value.numerator, value.denominator)


class IsFraction(Case):
    def test_fractions(self):
        for one in SOME + LARGE:
            self.assertIs(is_fraction(one), True, one)

    def test_no_fractions(self):
        for thing in NO_NUMBERS + [
            0, 1, (1,), (1, 2, 3), [1, 2], (2, 4), (-2, 4), (0, 2), (0, 0), (1, 0), (-1, 0), (1, -2), (-1, -1), (0, -1),
            (True, 2), (1, True), (False, 1), (None, 1), (1, None), ("1", "2"), "12", ((1, 2), 1), (1, (1, 2)), ([1], 2),
            {1: 2}, (3, 3), (10 ** 699, 10), (GREAT, GREAT),
        ]:
            if same(thing, (1, 2)):
                continue
            self.assertIs(is_fraction(thing), False, thing)


class Making(Case):
    def test_in_lowest_terms(self):
        for top in range(-30, 31):
            for bottom in list(range(-30, 0)) + list(range(1, 31)):
                self.same(fraction(top, bottom), pair(Fraction(top, bottom)), top, bottom)

    def test_nought(self):
        for bottom in (1, -1, 2, -7, GREAT, -GREAT):
            self.same(fraction(0, bottom), (0, 1))

    def test_great_numbers(self):
        for top in (GREAT, -GREAT, 6 * 10 ** 699, 2 ** 2300):
            for bottom in (GREAT, -GREAT, 1 - GREAT, 2 ** 2000, 6 ** 800, -(10 ** 699), 3, -1):
                self.same(fraction(top, bottom), pair(Fraction(top, bottom)))

    def test_refused(self):
        for thing in NO_NUMBERS:
            self.refused(NoFraction, {"found": (thing, 1)}, fraction, thing, 1)
            self.refused(NoFraction, {"found": (1, thing)}, fraction, 1, thing)
            self.refused(NoFraction, {"found": (thing, 0)}, fraction, thing, 0)
            self.refused(NoFraction, {"found": (thing, thing)}, fraction, thing, thing)
        for top in (0, 1, -1, GREAT, -GREAT):
            self.refused(NoFraction, {"found": (top, 0)}, fraction, top, 0)


class Reckoning(Case):
    def test_sum_difference_product(self):
        for one in SOME + LARGE:
            for other in SOME + LARGE:
                a, b = Fraction(*one), Fraction(*other)
                self.same(plus(one, other), pair(a + b), one, other)
                self.same(minus(one, other), pair(a - b), one, other)
                self.same(times(one, other), pair(a * b), one, other)

    def test_quotient(self):
        for one in SOME + LARGE:
            for other in SOME + LARGE:
                if other != (0, 1):
                    self.same(over(one, other), pair(Fraction(*one) / Fraction(*other)), one, other)

    def test_nothing_by(self):
        for one in SOME + LARGE:
            self.refused(NothingBy, {}, over, one, (0, 1))

    def test_less(self):
        for one in SOME + LARGE:
            for other in SOME + LARGE:
                self.assertIs(less(one, other), Fraction(*one) < Fraction(*other), (one, other))

    def test_told(self):
        self.same(plus((1, 2), (-1, 2)), (0, 1))
        self.same(minus((1, 6), (1, 2)), (-1, 3))
        self.same(times((-2, 3), (3, 2)), (-1, 1))
        self.same(over((1, 2), (-3, 4)), (-2, 3))
        self.assertIs(less((-1, 2), (-1, 3)), True)
        self.assertIs(less((1, 2), (1, 2)), False)


class ByTwos(Case):
    def test_by_twos(self):
        for number in (0, 1, -1, 2, -2, 3, 12, -12, 96, 2 ** 40, -(2 ** 40), GREAT, -GREAT, 2 ** 2100, -(2 ** 2200)):
            for k in (0, 1, 2, 3, 5, 31, 40, 64, 699, 2099, 2100):
                self.same(by_twos(number, k), pair(Fraction(number, 2 ** k)), number, k)

    def test_raised(self):
        for one in SOME + LARGE:
            for k in (0, 1, 2, 3, 39, 40, 41, 64, 1999, 2000, 2001, 2099, 2100):
                found = raised(one, k)
                top, bottom = one
                self.same(found, pair(Fraction(-(-top * 2 ** k // bottom), 2 ** k)), one, k)
                self.assertTrue(Fraction(*found) >= Fraction(*one))
                self.assertTrue(Fraction(*found) - Fraction(1, 2 ** k) < Fraction(*one))

    def test_raised_told(self):
        self.same(raised((1, 3), 0), (1, 1))
        self.same(raised((-1, 3), 0), (0, 1))
        self.same(raised((1, 3), 1), (1, 2))
        self.same(raised((-2, 3), 1), (-1, 2))
        self.same(raised((5, 8), 3), (5, 8))
        self.same(raised((-5, 8), 3), (-5, 8))
        self.same(raised((-5, 8), 2), (-1, 2))
        self.same(raised((0, 1), 2100), (0, 1))


class Steps(Case):
    def test_the_greatest_numbers_come_within_the_steps(self):
        a, b = fibonacci(700)
        for one, other in [((a, b), (b, a)), ((GREAT, GREAT - 1), (a, b)), ((-a, b), (1 - GREAT, GREAT))]:
            for call in (plus, minus, times, over, less):
                counted(call, one, other)
            counted(is_fraction, one)
            counted(raised, one, 2100)
        counted(fraction, a, -b)
        counted(by_twos, a, 2100)
        counted(by_twos, -GREAT, 2100)


if __name__ == "__main__":
    unittest.main()
