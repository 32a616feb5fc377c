import random
import unittest

from overwise.division import (
    bits_ahead, guess_of, guess_rows, is_division, long_divided, steps_ahead, turn_of, worst,
)
from overwise.errors import NoDivisor, NoLong, NothingBy, NoWidth, NoWord
from overwise.longs import long_left
from tests.helper import NO_NUMBERS, NO_WIDTHS, Case, counted, no_longs, words_of


def number_of(width, words):
    return sum(word * 2 ** (width * place) for place, word in enumerate(words))


def wanted_rows(width, top, bottom):
    """The rows of a division, reckoned with numbers and Python's own divider."""
    size = 2 ** width
    steps = max(0, len(top) - len(bottom) + 1)
    turn = width - bottom[-1].bit_length()
    upper, lower = number_of(width, top) << turn, number_of(width, bottom) << turn
    rest = upper // size ** steps
    rows = []
    for place in range(steps - 1, -1, -1):
        divided = rest * size + upper // size ** place % size
        high = divided // size ** len(bottom)
        low = divided // size ** (len(bottom) - 1) % size
        guess = min(size - 1, (high * size + low) // (lower // size ** (len(bottom) - 1)))
        digit = divided // lower
        rest = divided - digit * lower
        rows.append((place, guess, guess - digit, digit, words_of(width, rest)))
    return rows


def small_pairs(width):
    """Upper and lower longs of every small count of words."""
    size = 2 ** width
    ends = [0, 1, 2, size // 2 - 1, size // 2, size - 1]
    tops = [[]] + [[one] for one in range(1, size)] + [[one, other] for one in ends + [5] for other in ends[1:]]
    tops += [[one, other, third] for one in (0, 1, size - 1) for other in ends for third in ends[1:]]
    tops += [[one, 0, other, third] for one in (0, size - 1) for other in (0, size // 2) for third in ends[1:]]
    bottoms = [[one] for one in range(1, size)] + [[one, other] for one in ends + [3] for other in ends[1:]]
    bottoms += [[one, other, third] for one in (0, size - 1) for other in (0, 1, size // 2, size - 1) for third in ends[1:]]
    return [(top, bottom) for top in tops for bottom in bottoms]


def great_pairs(width, many, source):
    """Upper and lower longs of up to forty words, among them many whose words lie at their ends."""
    size = 2 ** width
    found = []
    for some in range(many):
        words = []
        for most in (40, source.choice([3, 20, 40])):
            count = source.randrange(1, most + 1)
            if source.randrange(2):
                words.append([source.choice([0, 1, size // 2 - 1, size // 2, size - 2, size - 1]) for place in range(count)])
            else:
                words.append([source.randrange(size) for place in range(count)])
            words[-1][-1] = words[-1][-1] or 1
        found.append(tuple(words))
    full = [size - 1] * 40
    return found + [(full, full), (full, [size - 1]), (full, [1]), ([1], full), (full, [0] * 20 + [1]), ([], full)]


class Turns(Case):
    def test_walked(self):
        for width in (4, 5, 8):
            for last in range(1, 2 ** width):
                for words in ([last], [0, last], [2 ** width - 1, 0, last]):
                    turn = turn_of(width, words)
                    self.assertIs(type(turn), int)
                    self.assertTrue(2 ** (width - 1) <= last * 2 ** turn < 2 ** width, (width, last))
                    moved = long_left(width, words, turn)
                    self.assertEqual(len(moved), len(words))

    def test_told(self):
        for width in range(4, 33):
            self.same(turn_of(width, [1]), width - 1)
            self.same(turn_of(width, [2 ** (width - 1)]), 0)
            self.same(turn_of(width, [0, 2 ** width - 1]), 0)
            self.same(turn_of(width, [0, 2 ** (width - 1) - 1]), 1)

    def test_refused(self):
        for thing in NO_WIDTHS:
            self.refused(NoWidth, {"found": thing}, turn_of, thing, [])
        for thing in no_longs(8):
            self.refused(NoLong, {"found": thing}, turn_of, 8, thing)
        self.refused(NothingBy, {}, turn_of, 8, [])


class Guesses(Case):
    def look_at(self, width, high, low, word):
        size = 2 ** width
        rows = guess_rows(width, high, low, word)
        self.assertIs(type(rows), list)
        self.same(len(rows), width)
        rest, guess = high, 0
        for place, row in enumerate(rows):
            self.same(row, (row[0], row[1]))
            ahead = 2 * rest + (low >> (width - 1 - place)) % 2
            bit = 1 if ahead >= word else 0
            self.same(row, (bit, ahead - bit * word), width, high, low, word)
            rest, guess = row[1], 2 * guess + bit
        self.same(guess_of(width, high, low, word), guess)
        self.same(guess, min(size - 1, (high * size + low) // word), width, high, low, word)

    def test_all_words_of_width_4(self):
        for word in range(8, 16):
            for high in range(word + 1):
                for low in range(16):
                    self.look_at(4, high, low, word)

    def test_other_widths(self):
        for width in (5, 16, 31, 32):
            size = 2 ** width
            for word in (size // 2, size // 2 + 1, 2 * size // 3, size - 2, size - 1):
                for high in (0, 1, size // 3, word - 1, word):
                    if high <= word:
                        for low in (0, 1, size // 2, size // 3, size - 1):
                            self.look_at(width, high, low, word)

    def test_told(self):
        self.same(guess_rows(4, 7, 5, 9), [(1, 5), (1, 2), (0, 4), (1, 0)])
        self.same(guess_of(4, 7, 5, 9), 13)
        self.same(guess_rows(4, 8, 15, 8), [(1, 9), (1, 11), (1, 15), (1, 23)])
        self.same(guess_of(4, 8, 0, 8), 15)

    def test_new_each_time(self):
        self.fresh(guess_rows, 4, 7, 5, 9)

    def test_the_refusals_in_their_order(self):
        for call in (guess_rows, guess_of):
            for thing in NO_WIDTHS:
                self.refused(NoWidth, {"found": thing}, call, thing, -1, -1, -1)
            for width in (4, 32):
                half, size = 2 ** (width - 1), 2 ** width
                for thing in NO_NUMBERS + [-1, size, 10 ** 39, -(10 ** 39)]:
                    self.refused(NoWord, {"found": thing}, call, width, thing, "x", "y")
                    self.refused(NoWord, {"found": thing}, call, width, size - 1, thing, "y")
                    self.refused(NoDivisor, {"found": thing}, call, width, size - 1, 3, thing)
                    self.refused(NoDivisor, {"found": thing}, call, width, 0, 3, thing)
                for word in (0, 1, half - 1):
                    self.refused(NoDivisor, {"found": word}, call, width, size - 1, 3, word)
                    self.refused(NoDivisor, {"found": word}, call, width, 0, 3, word)
                for word in (half, half + 1, size - 2):
                    self.refused(NoWord, {"found": word + 1}, call, width, word + 1, 3, word)
                    self.refused(NoWord, {"found": size - 1}, call, width, size - 1, 3, word)


class Divisions(Case):
    def look_at(self, width, top, bottom):
        quotient, rest, rows = found = long_divided(width, top, bottom)
        self.same(found, (quotient, rest, rows))
        upper, lower = number_of(width, top), number_of(width, bottom)
        self.same(quotient, words_of(width, upper // lower), width, top, bottom)
        self.same(rest, words_of(width, upper % lower), width, top, bottom)
        self.same(rows, wanted_rows(width, top, bottom), width, top, bottom)
        self.same(steps_ahead(width, top, bottom), len(rows), width, top, bottom)
        self.same(bits_ahead(width, top, bottom), len(rows) * width, width, top, bottom)
        self.assertTrue(all(0 <= row[2] <= 2 for row in rows), (width, top, bottom))
        return max([row[2] for row in rows], default=0)

    def test_small_longs(self):
        for width in (4, 5):
            most = [self.look_at(width, top, bottom) for top, bottom in small_pairs(width)]
            self.assertEqual(set(most), {0, 1, 2})

    def test_great_longs(self):
        source = random.Random(65)
        for width in (4, 5, 31, 32):
            most = [self.look_at(width, top, bottom) for top, bottom in great_pairs(width, 60, source)]
            self.assertIn(1, most)

    def test_random_longs_of_width_32(self):
        source = random.Random(66)
        for many in range(150):
            top = words_of(32, source.randrange(2 ** source.randrange(1, 32 * 40)))
            bottom = words_of(32, source.randrange(1, 2 ** source.randrange(1, 32 * 20)))
            self.look_at(32, top, bottom)

    def test_steps_ahead(self):
        for width in (4, 32):
            self.same(steps_ahead(width, [], [1]), 0)
            self.same(steps_ahead(width, [], [0, 1]), 0)
            self.same(steps_ahead(width, [1], [1]), 1)
            self.same(steps_ahead(width, [1], [0, 0, 0, 1]), 0)
            self.same(steps_ahead(width, [0, 1], [0, 1]), 1)
            self.same(steps_ahead(width, [1] * 40, [1]), 40)
            self.same(bits_ahead(width, [1] * 40, [1]), 40 * width)
            self.same(bits_ahead(width, [1], [1, 1]), 0)

    def test_told(self):
        self.same(long_divided(4, [], [3]), ([], [], []))
        self.same(long_divided(4, [2], [3]), ([], [2], [(0, 0, 0, 0, [8])]))
        self.same(long_divided(4, [2, 1], [3]), ([6], [], [(1, 0, 0, 0, [4]), (0, 6, 0, 6, [])]))
        self.same(long_divided(4, [5, 7], [1, 2, 3]), ([], [5, 7], []))
        self.same(long_divided(4, [5, 7], [5, 7]), ([1], [], [(0, 1, 0, 1, [])]))
        self.same(long_divided(8, [232, 3], [7]), ([142], [6], [(1, 0, 0, 0, [125]), (0, 142, 0, 142, [192])]))

    def test_the_worst_pair(self):
        for width in range(4, 33):
            half, size = 2 ** (width - 1), 2 ** width
            pair = worst(width)
            self.same(pair, ([0, half, half - 1], [size - 1, half]))
            self.look_at(width, *pair)
            rows = long_divided(width, *pair)[2]
            self.same([row[0] for row in rows], [1, 0])
            self.same(rows[1][2], 2)
        self.fresh(worst, 8)
        for thing in NO_WIDTHS:
            self.refused(NoWidth, {"found": thing}, worst, thing)

    def test_within_the_steps(self):
        full = [2 ** 4 - 1] * 40
        for bottom in ([1], [15], [7] * 20, [15] * 20, [0] * 19 + [8], [15] * 40):
            told = counted(long_divided, 4, full, bottom, most=400_000)
            self.assertIs(counted(is_division, 4, full, bottom, *told, most=400_000), True)

    def test_new_each_time(self):
        for top, bottom in [([1, 2, 3], [7]), ([1], [0, 2]), ([], [1]), ([0, 0, 8], [8]), worst(4)]:
            self.fresh(long_divided, 4, top, bottom)

    def test_what_is_handed_in_is_left_alone(self):
        for top, bottom in [([1, 2, 3], [8]), ([1], [0, 2]), ([5, 9], [5, 9])]:
            kept = (list(top), list(bottom))
            for box in self.boxes(long_divided(4, top, bottom)):
                box.append(9)
            self.same((top, bottom), kept)


class Refusals(Case):
    def each(self, *things):
        return [
            (steps_ahead, things), (bits_ahead, things), (long_divided, things), (is_division, things + ([], [], [])),
            (is_division, things + (None, "x", 3)),
        ]

    def test_the_width_first(self):
        for thing in NO_WIDTHS:
            for call, things in self.each(thing, None, []):
                self.refused(NoWidth, {"found": thing}, call, *things)

    def test_then_the_longs(self):
        for width in (4, 32):
            for thing in no_longs(width):
                for call, things in self.each(width, thing, [0]) + self.each(width, thing, []):
                    self.refused(NoLong, {"found": thing}, call, *things)
                for call, things in self.each(width, [1, 2], thing) + self.each(width, [], thing):
                    self.refused(NoLong, {"found": thing}, call, *things)

    def test_then_nothing_to_divide_by(self):
        for width in (4, 32):
            for top in ([], [1], [1] * 40):
                for call, things in self.each(width, top, []):
                    self.refused(NothingBy, {}, call, *things)


class LookingWithoutTrust(Case):
    PAIRS = [
        (4, [], [3]), (4, [2], [3]), (4, [2, 1], [3]), (4, [5, 7], [1, 2, 3]), (4, [5, 7], [5, 7]), (4, [0, 8, 7], [15, 8]),
        (4, [1, 2, 3, 4, 5], [6, 7]), (4, [15] * 6, [15, 15]), (5, [0, 0, 0, 1], [1, 1]), (32, [5, 0, 2 ** 31], [7, 2 ** 31]),
        (4, [1], [1]), (4, [0, 1], [1]), (8, [7, 1, 255], [3, 1]),
    ]

    def told(self):
        return [(width, top, bottom) + long_divided(width, top, bottom) for width, top, bottom in self.PAIRS]

    def test_what_is_told_is_one(self):
        for width, top, bottom in self.PAIRS:
            rows = wanted_rows(width, top, bottom)
            upper, lower = number_of(width, top), number_of(width, bottom)
            things = (words_of(width, upper // lower), words_of(width, upper % lower), rows)
            self.assertIs(is_division(width, top, bottom, *things), True, (width, top, bottom))
        for width in (4, 5):
            for top, bottom in small_pairs(width)[::17]:
                things = long_divided(width, top, bottom)
                self.assertIs(is_division(width, top, bottom, *things), True, (width, top, bottom))
        source = random.Random(67)
        for top, bottom in great_pairs(32, 30, source):
            self.assertIs(is_division(32, top, bottom, *long_divided(32, top, bottom)), True, (top, bottom))

    def forged_longs(self, width, words):
        found = [words + [0], words + [1], [0] + words, [1] + words, tuple(words), words[1:], words[:-1], [words], None]
        found += [[True] + words[1:], [False] + words[1:], words[:-1] + [True], words + [None], "12", 3, True, {}]
        for place in range(len(words)):
            for off in (-1, 1, 2 ** width, -(2 ** width)):
                found.append(words[:place] + [words[place] + off] + words[place + 1:])
        return [thing for thing in found if thing != words or not self.plain(thing)]

    def plain(self, thing):
        return isinstance(thing, list) and all(type(word) is int for word in thing)

    def test_forged_quotients_and_rests(self):
        for width, top, bottom, quotient, rest, rows in self.told():
            for thing in self.forged_longs(width, quotient):
                self.assertIs(is_division(width, top, bottom, thing, rest, rows), False, (top, bottom, thing))
            for thing in self.forged_longs(width, rest):
                self.assertIs(is_division(width, top, bottom, quotient, thing, rows), False, (top, bottom, thing))
            lower = number_of(width, bottom)
            less = number_of(width, quotient) - 1
            if less >= 0:
                other = (words_of(width, less), words_of(width, number_of(width, rest) + lower))
                self.assertIs(is_division(width, top, bottom, *other, rows), False)

    def test_forged_rows(self):
        for width, top, bottom, quotient, rest, rows in self.told():
            wrong = [rows[1:], rows[:-1], rows + rows[-1:], rows + [None], rows[::-1], tuple(rows), [rows], None, {}, "rows"]
            for place, row in enumerate(rows):
                for thing in self.forged_row(width, row):
                    wrong.append(rows[:place] + [thing] + rows[place + 1:])
            for thing in wrong:
                if thing != rows or not isinstance(thing, list) or self.odd_kinds(thing):
                    found = is_division(width, top, bottom, quotient, rest, thing)
                    self.assertIs(found, False, (width, top, bottom, thing))

    def forged_row(self, width, row):
        found = [list(row), row[:4], row + (0,), row[::-1], None, (), (row,), 3, "x", row[4]]
        for field in range(4):
            for thing in (row[field] - 1, row[field] + 1, row[field] + 2 ** width, None, True, False, "1", [row[field]]):
                found.append(row[:field] + (thing,) + row[field + 1:])
        # Guesses and how often they go back that tell the same digit, and digits that tell another rest.
        for off in (-2, -1, 1, 2):
            found.append((row[0], row[1] + off, row[2] + off, row[3], row[4]))
            found.append((row[0], row[1], row[2] + off, row[3] - off, row[4]))
            found.append((row[0], row[1] + off, row[2], row[3] + off, row[4]))
        return found + [row[:4] + (thing,) for thing in self.forged_longs(width, row[4])]

    def odd_kinds(self, rows):
        return any(type(number) is not int for row in rows for number in row[:4])

    def test_digits_that_make_up_for_one_another(self):
        """A digit one less with a rest that is greater by the lower long: all sums are right, yet it is none."""
        for width, top, bottom, quotient, rest, rows in self.told():
            turn = width - bottom[-1].bit_length()
            lower = number_of(width, bottom) << turn
            for place, row in enumerate(rows):
                greater = words_of(width, number_of(width, row[4]) + lower)
                forged = rows[:place] + [(row[0], row[1], row[2] + 1, row[3] - 1, greater)] + rows[place + 1:]
                self.assertIs(is_division(width, top, bottom, quotient, rest, forged), False)
                changed = [row[3] for row in reversed(forged)]
                while changed and changed[-1] == 0:
                    changed.pop()
                last = words_of(width, number_of(width, forged[-1][4]) >> turn)
                self.assertIs(is_division(width, top, bottom, changed, last, forged), False)

    def test_truths_in_the_place_of_numbers(self):
        quotient, rest, rows = long_divided(4, [1], [1])
        self.same((quotient, rest, rows), ([1], [], [(0, 1, 0, 1, [])]))
        for thing in ([(False, 1, 0, 1, [])], [(0, True, 0, 1, [])], [(0, 1, False, 1, [])], [(0, 1, 0, True, [])]):
            self.assertIs(is_division(4, [1], [1], quotient, rest, thing), False)
        self.assertIs(is_division(4, [1], [1], [True], rest, rows), False)
        rows = long_divided(4, [9], [8])[2]
        self.same(rows, [(0, 1, 0, 1, [1])])
        self.assertIs(is_division(4, [9], [8], [1], [1], rows), True)
        self.assertIs(is_division(4, [9], [8], [1], [True], rows), False)
        self.assertIs(is_division(4, [9], [8], [1], [1], [(0, 1, 0, 1, [True])]), False)

    def test_things_of_every_kind(self):
        for width, top, bottom, quotient, rest, rows in self.told():
            for thing in NO_NUMBERS + [0, 1, -1, 10 ** 39]:
                for place, right in enumerate((quotient, rest, rows)):
                    things = [quotient, rest, rows]
                    things[place] = thing
                    wanted = isinstance(thing, list) and thing == right
                    self.assertIs(is_division(width, top, bottom, *things), wanted, (top, bottom, things))

    def test_the_things_stay_as_they_were(self):
        for width, top, bottom, quotient, rest, rows in self.told():
            kept = long_divided(width, list(top), list(bottom))
            is_division(width, top, bottom, quotient, rest, rows)
            self.same((quotient, rest, rows), kept)


if __name__ == "__main__":
    unittest.main()
