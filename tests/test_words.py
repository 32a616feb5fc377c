import unittest

from overwise.errors import NoText, NoWidth, Twice
from overwise.kinds import Plain, Pointed, Signed
from overwise.words import (
    bits_in, figures_of, gap_of, high_product, is_whole, left, low_product, need_width, right, slide, sum_of,
)
from tests.helper import NO_NUMBERS, NO_WIDTHS, Case

EDGES = [0, 1, 2, 3, 2 ** 31 - 1, 2 ** 31, 2 ** 31 + 1, 2 ** 32 - 2, 2 ** 32 - 1, 2 ** 16, 2 ** 16 - 1, 0xDEADBEEF]


class WholeNumbers(Case):
    def test_whole_numbers_are(self):
        for number in [0, 1, -1, 2, 32, 10 ** 39, -10 ** 39, 7 ** 800]:
            self.assertIs(is_whole(number), True, number)

    def test_nothing_else_is(self):
        for thing in NO_NUMBERS + [Plain(4), Signed(4), Pointed(4, 1), Twice(1, "a"), "1", "-1", [1], (1,), {1: 1}]:
            self.assertIs(is_whole(thing), False, thing)


class Widths(Case):
    def test_each_width_is_taken(self):
        for width in range(4, 33):
            self.assertIs(need_width(width), None)

    def test_what_is_no_width_is_refused(self):
        for thing in NO_WIDTHS:
            self.refused(NoWidth, {"found": thing}, need_width, thing)

    def test_the_width_comes_first_everywhere(self):
        for thing in NO_WIDTHS:
            for call in (sum_of, gap_of, low_product, high_product, left, right, slide):
                self.refused(NoWidth, {"found": thing}, call, thing, 1, 1)
            self.refused(NoWidth, {"found": thing}, figures_of, thing, 1)
            self.refused(NoWidth, {"found": thing}, bits_in, thing, "0001")
            self.refused(NoWidth, {"found": thing}, bits_in, thing, None)


class FiguresOfTwo(Case):
    def test_written(self):
        self.same(figures_of(4, 0), "0000")
        self.same(figures_of(4, 1), "0001")
        self.same(figures_of(4, 8), "1000")
        self.same(figures_of(5, 22), "10110")
        self.same(figures_of(32, 2 ** 32 - 1), "1" * 32)
        self.same(figures_of(32, 2 ** 31), "1" + "0" * 31)

    def test_both_ways(self):
        for width in (4, 5, 8):
            for bits in range(2 ** width):
                text = figures_of(width, bits)
                self.same(text, format(bits, "b").zfill(width))
                self.same(bits_in(width, text), bits)
        for width in range(9, 33):
            for bits in (0, 1, 2 ** (width - 1), 2 ** width - 1, 2 ** width // 3):
                self.same(bits_in(width, figures_of(width, bits)), bits)

    def test_other_texts_are_refused(self):
        for text in ["", "0", "000", "00000", "0002", "000 ", " 000", "-001", "+001", "0b01", "0_01", "000a", "01\n1",
                     "00011", "1" * 32, "1" * 8000, "....", "000\u0661"]:
            self.refused(NoText, {"found": text}, bits_in, 4, text)
        self.refused(NoText, {"found": "1" * 31}, bits_in, 32, "1" * 31)
        self.refused(NoText, {"found": "1" * 33}, bits_in, 32, "1" * 33)

    def test_what_is_no_text_is_refused(self):
        things = [thing for thing in NO_NUMBERS if not isinstance(thing, str)]
        for thing in things + [0, 1, 1111, ["0", "0", "0", "1"], ("0", "0", "0", "1"), ["0001"], {"0001": 1}]:
            self.refused(NoText, {"found": thing}, bits_in, 4, thing)


class Reckoning(Case):
    def look_at(self, width, a, b):
        size = 2 ** width
        bits, carry = sum_of(width, a, b)
        self.same(sum_of(width, a, b), (bits, carry))
        self.assertTrue(0 <= bits < size and carry in (0, 1) and carry * size + bits == a + b, (width, a, b))
        self.assertEqual({type(bits), type(carry)}, {int})
        bits, borrow = gap_of(width, a, b)
        self.same(gap_of(width, a, b), (bits, borrow))
        self.assertTrue(0 <= bits < size and borrow in (0, 1) and bits - borrow * size == a - b, (width, a, b))
        self.assertEqual({type(bits), type(borrow)}, {int})
        low, high = low_product(width, a, b), high_product(width, a, b)
        self.assertTrue(0 <= low < size and 0 <= high < size and high * size + low == a * b, (width, a, b))

    def test_all_words_of_width_4(self):
        for a in range(16):
            for b in range(16):
                self.look_at(4, a, b)

    def test_the_ends_of_width_32(self):
        for a in EDGES:
            for b in EDGES:
                self.look_at(32, a, b)

    def test_other_widths(self):
        for width in range(5, 32):
            ends = [0, 1, 2 ** (width - 1) - 1, 2 ** (width - 1), 2 ** width - 2, 2 ** width - 1, 2 ** width // 3]
            for a in ends:
                for b in ends:
                    self.look_at(width, a, b)

    def test_told(self):
        self.same(sum_of(4, 9, 9), (2, 1))
        self.same(sum_of(4, 9, 6), (15, 0))
        self.same(gap_of(4, 3, 5), (14, 1))
        self.same(gap_of(4, 5, 5), (0, 0))
        self.same(low_product(4, 15, 15), 1)
        self.same(high_product(4, 15, 15), 14)


class Moving(Case):
    def look_at(self, width, a, k):
        size = 2 ** width
        count = a - size if a >= size // 2 else a
        self.same(left(width, a, k), a * 2 ** k % size, width, a, k)
        self.same(right(width, a, k), a // 2 ** k, width, a, k)
        self.same(slide(width, a, k), (count // 2 ** k) % size, width, a, k)

    def test_all_words_of_width_4(self):
        for a in range(16):
            for k in range(4):
                self.look_at(4, a, k)

    def test_other_widths(self):
        for width in range(5, 33):
            ends = [0, 1, 2 ** (width - 1) - 1, 2 ** (width - 1), 2 ** width - 2, 2 ** width - 1, 2 ** width // 3]
            for a in ends:
                for k in range(width):
                    self.look_at(width, a, k)

    def test_the_ends_of_width_32(self):
        for a in EDGES:
            for k in range(32):
                self.look_at(32, a, k)

    def test_told(self):
        self.same(left(4, 9, 1), 2)
        self.same(right(4, 9, 1), 4)
        self.same(slide(4, 9, 1), 12)
        self.same(slide(4, 15, 3), 15)
        self.same(slide(4, 7, 2), 1)


if __name__ == "__main__":
    unittest.main()
