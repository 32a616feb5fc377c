import math
import unittest
from fractions import Fraction

from overwise.errors import NoWay
from overwise.kinds import Plain, Pointed, Signed
from overwise.ways import Cut, Down, Near, Up, Way, all_ways, into, way_of
from tests.helper import NO_NUMBERS, Case, counted

WORDS = ["down", "up", "cut", "near"]
ROUNDED = {"down": math.floor, "up": math.ceil, "cut": math.trunc, "near": round}
GREAT = [10 ** 39, 10 ** 40 - 1, 5 * 10 ** 39, 10 ** 699 + 1]


class Ways(Case):
    def test_the_classes(self):
        for kind in (Down, Up, Cut, Near):
            self.assertTrue(issubclass(kind, Way))
            self.assertIsInstance(kind(), Way)
            for other in (Down, Up, Cut, Near):
                self.assertEqual(issubclass(kind, other), kind is other)

    def test_words(self):
        self.assertEqual([kind().word() for kind in (Down, Up, Cut, Near)], WORDS)
        self.same(all_ways(), WORDS)
        self.fresh(all_ways)

    def test_way_of(self):
        for word, kind in zip(WORDS, (Down, Up, Cut, Near)):
            way = way_of(word)
            self.assertIs(type(way), kind)
            self.assertIsNot(way_of(word), way)
            self.same(way.word(), word)

    def test_no_way(self):
        for thing in NO_NUMBERS + ["Down", "DOWN", "down ", " down", "dow", "downup", "round", "stop", "\n", 0, 1, -1,
                                   ["down"], ("down",), {"down": "down"}, Down(), Near(), WORDS, tuple(WORDS)]:
            self.refused(NoWay, {"found": thing}, way_of, thing)

    def test_most_miss(self):
        self.same(Down().most_miss(), (1, 1))
        self.same(Up().most_miss(), (1, 1))
        self.same(Cut().most_miss(), (1, 1))
        self.same(Near().most_miss(), (1, 2))


class Rounding(Case):
    def test_small_numbers(self):
        for word in WORDS:
            way = way_of(word)
            for bottom in range(1, 25):
                for top in range(-80, 81):
                    self.same(way.rounded(top, bottom), ROUNDED[word](Fraction(top, bottom)), word, top, bottom)

    def test_great_numbers(self):
        for word in WORDS:
            way = way_of(word)
            for top in GREAT + [-top for top in GREAT] + [0, 1, -1]:
                for bottom in GREAT + [1, 2, 3, 10 ** 20, 2 * 10 ** 39]:
                    self.same(way.rounded(top, bottom), ROUNDED[word](Fraction(top, bottom)), word, top, bottom)

    def test_halves_and_one_off_them(self):
        for middle in (0, 1, 2, 7, -1, -2, -7, 10 ** 30, 10 ** 30 + 1, -(10 ** 30), -(10 ** 30) - 1):
            for bottom in (2, 4, 10, 10 ** 20):
                half = middle * bottom + bottom // 2
                even = middle if middle % 2 == 0 else middle + 1
                self.same(Near().rounded(half, bottom), even, middle, bottom)
                self.same(Near().rounded(3 * half, 3 * bottom), even, middle, bottom)
                self.same(Near().rounded(3 * half + 1, 3 * bottom), middle + 1, middle, bottom)
                self.same(Near().rounded(3 * half - 1, 3 * bottom), middle, middle, bottom)
                self.same(Down().rounded(half, bottom), middle)
                self.same(Up().rounded(half, bottom), middle + 1)
                self.same(Cut().rounded(half, bottom), middle if middle >= 0 else middle + 1)

    def test_told(self):
        for way, wanted in ((Down(), [-2, -1, 0, 0, 1, 3]), (Up(), [-1, 0, 0, 1, 2, 3]), (Cut(), [-1, 0, 0, 0, 1, 3]),
                            (Near(), [-2, 0, 0, 0, 2, 3])):
            tops = [(-3, 2), (-1, 2), (0, 2), (1, 2), (3, 2), (6, 2)]
            self.assertEqual([way.rounded(*top) for top in tops], wanted, way.word())


class Adjusting(Case):
    def test_beside_rounded(self):
        for word in WORDS:
            way = way_of(word)
            for divisor in range(1, 14):
                for quotient in range(5):
                    for rest in range(divisor):
                        self.look_at(way, quotient, rest, divisor)

    def test_great_numbers(self):
        for word in WORDS:
            way = way_of(word)
            for quotient in (0, 10 ** 39, 10 ** 39 + 1):
                for divisor in (1, 2, 10 ** 39, 10 ** 39 + 1):
                    for rest in sorted({0, 1, divisor // 2, divisor // 2 + 1, divisor - 1}):
                        if rest < divisor:
                            self.look_at(way, quotient, rest, divisor)

    def look_at(self, way, quotient, rest, divisor):
        top = quotient * divisor + rest
        for negative in (False, True):
            number = ROUNDED[way.word()](Fraction(-top if negative else top, divisor))
            self.assertIn(abs(number), (quotient, quotient + 1))
            found = way.adjust(quotient, rest, divisor, negative)
            self.same(found, abs(number) == quotient + 1, way.word(), quotient, rest, divisor, negative)


class Into(Case):
    def look_at(self, kind, word, top, bottom):
        low = 0 if isinstance(kind, Plain) else -(2 ** (kind.width - 1))
        high = low + 2 ** kind.width - 1
        number = ROUNDED[word](Fraction(top * 2 ** kind.point, bottom))
        size = 2 ** kind.width
        if low <= number <= high:
            stopped = gone = (number % size, "")
        else:
            stopped, gone = ((low if number < low else high) % size, "stop"), (number % size, "round")
        self.same(into(kind, way_of(word), top, bottom, True), stopped, kind.word(), word, top, bottom)
        self.same(into(kind, way_of(word), top, bottom, False), gone, kind.word(), word, top, bottom)

    def test_small_kinds(self):
        for kind in (Plain(4), Signed(4), Pointed(4, 1), Pointed(4, 3)):
            for word in WORDS:
                for bottom in (1, 2, 3, 6, 8):
                    for top in range(-20 * bottom, 36 * bottom + 1):
                        self.look_at(kind, word, top, bottom)

    def test_about_the_ends_of_great_kinds(self):
        for kind in (Plain(32), Signed(32), Pointed(32, 1), Pointed(32, 31), Pointed(17, 9)):
            low = 0 if isinstance(kind, Plain) else -(2 ** (kind.width - 1))
            high = low + 2 ** kind.width - 1
            for word in WORDS:
                for end in (low, high):
                    for off in range(-9, 10):
                        self.look_at(kind, word, 4 * end + off, 4 * 2 ** kind.point)
                        self.look_at(kind, word, 7 * (4 * end + off), 7 * 4 * 2 ** kind.point)
                for top in (10 ** 39, -(10 ** 39), 10 ** 40 - 1):
                    for bottom in (1, 2, 7, 10 ** 30, 10 ** 39):
                        self.look_at(kind, word, top, bottom)

    def test_within_the_steps(self):
        for word in WORDS:
            counted(into, Pointed(32, 31), way_of(word), 10 ** 700 - 1, 3, False)
            counted(into, Pointed(32, 31), way_of(word), 1 - 10 ** 700, 10 ** 699, True)


if __name__ == "__main__":
    unittest.main()
