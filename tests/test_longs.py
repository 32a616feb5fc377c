import random
import unittest

from overwise.errors import Lesser, NoLong, NoWidth, NoWord
from overwise.longs import (
    borrows, carries, is_long, long_compare, long_gap, long_left, long_of, long_product, long_right, long_sum, number_of,
    times_word,
)
from tests.helper import NO_NUMBERS, NO_WIDTHS, Case, counted, no_longs, words_of


def no_words(width):
    return NO_NUMBERS + [-1, 2 ** width, 10 ** 39, -(10 ** 39)]


def some_numbers(width, source):
    """Numbers of several words: those whose words lie at their ends, and some between, up to forty words."""
    size = 2 ** width
    found = [0, 1, 2, size - 1, size, size + 1, size ** 2 - 1, size ** 2, size ** 3 - 1, size ** 39, size ** 40 - 1]
    found += [size // 2, size * size // 2, size ** 2 - size, (size - 1) * size ** 2, size ** 20 - 1, size ** 20]
    for many in range(12):
        found.append(source.randrange(size ** source.randrange(1, 41)))
    for many in range(6):
        words = [source.choice([0, 1, size - 1]) for place in range(source.randrange(1, 40))]
        found.append(sum(word * size ** place for place, word in enumerate(words)))
    return found


class WhatIsALong(Case):
    def test_small_ones(self):
        for width in (4, 5):
            size = 2 ** width
            for one in range(size):
                self.same(is_long(width, [one]), one != 0)
                for other in range(size):
                    self.same(is_long(width, [one, other]), other != 0)
        self.same(is_long(4, []), True)
        self.same(is_long(32, [0, 0, 2 ** 32 - 1]), True)
        self.same(is_long(32, [2 ** 32 - 1] * 40), True)

    def test_other_things(self):
        for width in (4, 8, 32):
            for thing in no_longs(width):
                self.same(is_long(width, thing), False, width, thing)

    def test_the_width(self):
        for thing in NO_WIDTHS:
            self.refused(NoWidth, {"found": thing}, is_long, thing, [])
            self.refused(NoWidth, {"found": thing}, is_long, thing, None)


class BothWays(Case):
    def test_small_numbers(self):
        for width in (4, 5, 32):
            for number in list(range(600)) + [2 ** k + off for k in range(1, 130) for off in (-1, 0, 1)]:
                words = words_of(width, number)
                self.same(long_of(width, number), words, width, number)
                self.same(number_of(width, words), number, width, number)

    def test_great_numbers(self):
        for width in range(4, 33):
            for number in (10 ** 400 - 1, 10 ** 399, 7 ** 470):
                self.same(counted(long_of, width, number, most=10_000), words_of(width, number))
            for words in ([2 ** width - 1] * 40, [0] * 39 + [1], [1] + [0] * 38 + [2 ** width - 1]):
                number = sum(word * 2 ** (width * place) for place, word in enumerate(words))
                self.same(counted(number_of, width, words, most=10_000), number)

    def test_told(self):
        self.same(long_of(4, 0), [])
        self.same(long_of(4, 16), [0, 1])
        self.same(long_of(8, 1000), [232, 3])
        self.same(number_of(4, []), 0)
        self.same(number_of(8, [232, 3]), 1000)

    def test_no_numbers(self):
        for thing in NO_NUMBERS + [-1, -(10 ** 39)]:
            self.refused(NoLong, {"found": thing}, long_of, 8, thing)

    def test_new_each_time(self):
        self.fresh(long_of, 8, 10 ** 20)
        self.fresh(long_of, 8, 0)


class Sums(Case):
    def look_at(self, width, a, b):
        size = 2 ** width
        one, other = words_of(width, a), words_of(width, b)
        self.same(long_sum(width, one, other), words_of(width, a + b), width, a, b)
        found = carries(width, one, other)
        self.same(len(found), max(len(one), len(other)))
        for place, carry in enumerate(found):
            part = size ** (place + 1)
            self.same(carry, 1 if a % part + b % part >= part else 0, width, a, b, place)
        if a >= b:
            self.same(long_gap(width, one, other), words_of(width, a - b), width, a, b)
            found = borrows(width, one, other)
            self.same(len(found), len(one))
            for place, borrow in enumerate(found):
                part = size ** (place + 1)
                self.same(borrow, 1 if a % part < b % part else 0, width, a, b, place)
        else:
            self.refused(Lesser, {}, long_gap, width, one, other)
            self.refused(Lesser, {}, borrows, width, one, other)
        self.same(long_compare(width, one, other), -1 if a < b else 1 if a > b else 0, width, a, b)

    def test_two_words_of_width_4(self):
        for a in range(0, 256):
            for b in range(0, 256, 3):
                self.look_at(4, a, b)

    def test_three_words_of_width_4(self):
        for a in list(range(0, 4096, 173)) + [4095, 4096, 255, 256, 3840]:
            for b in list(range(0, 4096, 131)) + [4095, 4096, 1, 15, 16, 255, 256]:
                self.look_at(4, a, b)

    def test_great_numbers(self):
        source = random.Random(61)
        for width in (4, 5, 31, 32):
            numbers = some_numbers(width, source)
            for a in numbers:
                for b in numbers[::2] + [a]:
                    self.look_at(width, a, b)

    def test_told(self):
        self.same(long_sum(4, [15, 15], [1]), [0, 0, 1])
        self.same(carries(4, [15, 15], [1]), [1, 1])
        self.same(carries(4, [1], [15, 15]), [1, 1])
        self.same(carries(4, [15, 1], [1]), [1, 0])
        self.same(carries(4, [], []), [])
        self.same(long_gap(4, [0, 0, 1], [1]), [15, 15])
        self.same(borrows(4, [0, 0, 1], [1]), [1, 1, 0])
        self.same(long_gap(4, [5, 5, 5], [4, 5, 5]), [1])
        self.same(long_gap(4, [5, 5, 5], [5, 5, 5]), [])
        self.same(borrows(4, [5, 5, 5], [5, 5, 5]), [0, 0, 0])
        self.same(long_gap(4, [], []), [])
        self.refused(Lesser, {}, long_gap, 4, [], [1])
        self.refused(Lesser, {}, borrows, 4, [15, 15], [0, 0, 1])
        self.same(long_compare(4, [15], [0, 1]), -1)
        self.same(long_compare(4, [0, 1], [15]), 1)
        self.same(long_compare(4, [1, 2], [2, 1]), 1)


class Products(Case):
    def test_by_a_word(self):
        for width in (4, 5):
            for a in list(range(0, 2 ** width)) + list(range(0, 4 ** width, 37)):
                for word in range(2 ** width):
                    self.same(times_word(width, words_of(width, a), word), words_of(width, a * word), width, a, word)

    def test_by_a_word_of_great_widths(self):
        source = random.Random(62)
        for width in (16, 31, 32):
            for a in some_numbers(width, source):
                for word in (0, 1, 2, 2 ** (width - 1), 2 ** width - 1, source.randrange(2 ** width)):
                    found = counted(times_word, width, words_of(width, a), word, most=3000)
                    self.same(found, words_of(width, a * word), width, a, word)

    def test_by_a_long(self):
        for width in (4, 5):
            for a in list(range(0, 40)) + list(range(0, 8 ** width, 8 ** width // 31)):
                for b in list(range(0, 40, 3)) + list(range(0, 8 ** width, 8 ** width // 29)):
                    found = long_product(width, words_of(width, a), words_of(width, b))
                    self.same(found, words_of(width, a * b), width, a, b)

    def test_by_a_long_of_great_widths(self):
        source = random.Random(63)
        for width in (4, 31, 32):
            numbers = some_numbers(width, source)
            for a in numbers:
                for b in numbers[::4]:
                    found = counted(long_product, width, words_of(width, a), words_of(width, b), most=100_000)
                    self.same(found, words_of(width, a * b), width, a, b)

    def test_told(self):
        self.same(times_word(4, [15, 15], 15), [1, 15, 14])
        self.same(times_word(4, [15, 15], 0), [])
        self.same(times_word(4, [], 15), [])
        self.same(long_product(4, [15, 15], [0, 1]), [0, 15, 15])
        self.same(long_product(4, [], [15, 15]), [])
        self.same(long_product(4, [15, 15], []), [])


class Moving(Case):
    def test_moved(self):
        source = random.Random(64)
        for width in (4, 5, 7, 16, 31, 32):
            numbers = some_numbers(width, source)
            for many in range(65):
                for a in numbers[::3] + [2 ** many, 2 ** many - 1]:
                    one = words_of(width, a)
                    if len(one) <= 40:
                        self.same(long_left(width, one, many), words_of(width, a * 2 ** many), width, a, many)
                        self.same(long_right(width, one, many), words_of(width, a // 2 ** many), width, a, many)

    def test_told(self):
        self.same(long_left(4, [1], 0), [1])
        self.same(long_left(4, [1], 64), [0] * 16 + [1])
        self.same(long_left(4, [], 64), [])
        self.same(long_right(4, [0] * 16 + [9], 64), [9])
        self.same(long_right(4, [15] * 16, 64), [])
        self.same(long_right(32, [1, 1], 1), [2 ** 31])
        self.same(long_right(4, [], 0), [])


class WhatIsToldIsNew(Case):
    def test_new_each_time(self):
        for one in ([], [1, 2, 3], [15] * 5):
            for other in ([], [1], [15]):
                self.fresh(long_sum, 4, one, other)
                self.fresh(carries, 4, one, other)
                self.fresh(long_product, 4, one, other)
            self.fresh(long_gap, 4, one, [])
            self.fresh(borrows, 4, one, [])
            for number in (0, 1, 15):
                self.fresh(times_word, 4, one, number)
                self.fresh(long_left, 4, one, number)
                self.fresh(long_right, 4, one, number)

    def test_what_is_handed_in_is_left_alone(self):
        for call, things in [
            (long_sum, ([15, 1], [])), (long_sum, ([], [15, 1])), (long_gap, ([15, 1], [])), (long_product, ([15, 1], [1])),
            (times_word, ([15, 1], 1)), (long_left, ([15, 1], 0)), (long_right, ([15, 1], 0)), (carries, ([15, 1], [1])),
            (borrows, ([15, 1], [1])), (long_compare, ([15, 1], [1])), (number_of, ([15, 1],)), (is_long, ([15, 1],)),
        ]:
            kept = [list(thing) if isinstance(thing, list) else thing for thing in things]
            told = call(4, *things)
            self.same(list(things), kept)
            if isinstance(told, list):
                told.append(7)
            self.same(list(things), kept)


class Refusals(Case):
    TWO = [long_sum, long_gap, carries, borrows, long_compare, long_product]

    def test_the_width_first(self):
        for thing in NO_WIDTHS:
            for call in self.TWO:
                self.refused(NoWidth, {"found": thing}, call, thing, [1], [1, 1])
                self.refused(NoWidth, {"found": thing}, call, thing, None, [0])
            for call in (times_word, long_left, long_right):
                self.refused(NoWidth, {"found": thing}, call, thing, [1], 1)
                self.refused(NoWidth, {"found": thing}, call, thing, [0], None)
            self.refused(NoWidth, {"found": thing}, number_of, thing, None)
            self.refused(NoWidth, {"found": thing}, long_of, thing, -1)

    def test_then_each_thing_in_its_order(self):
        for width in (4, 32):
            for thing in no_longs(width):
                for call in self.TWO:
                    self.refused(NoLong, {"found": thing}, call, width, thing, [0])
                    self.refused(NoLong, {"found": thing}, call, width, thing, [1, 1])
                    self.refused(NoLong, {"found": thing}, call, width, [1], thing)
                    self.refused(NoLong, {"found": thing}, call, width, [], thing)
                self.refused(NoLong, {"found": thing}, times_word, width, thing, -1)
                self.refused(NoLong, {"found": thing}, number_of, width, thing)
                self.refused(NoLong, {"found": thing}, long_left, width, thing, 1)
                self.refused(NoLong, {"found": thing}, long_right, width, thing, 1)
            for thing in no_words(width):
                self.refused(NoWord, {"found": thing}, times_word, width, [1, 2], thing)
                self.refused(NoWord, {"found": thing}, times_word, width, [], thing)

    def test_a_word_of_a_greater_width(self):
        self.refused(NoLong, {"found": [16]}, number_of, 4, [16])
        self.same(number_of(5, [16]), 16)
        self.refused(NoWord, {"found": 16}, times_word, 4, [1], 16)


if __name__ == "__main__":
    unittest.main()
