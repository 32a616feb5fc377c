import unittest

from overwise.choice import candidates
from overwise.errors import NoDivisor, NoForm, NoWidth
from overwise.forms import (
    Early, Form, More, Scaled, Shifted, Wide, brought, corner_words, corners_to, is_right, is_wrong_word, need_divisor,
    reckoning_is_right, reckoning_wrong, twos_in, wrong_word,
)
from tests.helper import NO_NUMBERS, NO_WIDTHS, Case, by_blocks, counted, great_divisors, no_divisors, same, walked

MOST_FACTOR = 2 ** 32 - 1
NO_FACTORS = NO_NUMBERS + [-1, 2 ** 32, 10 ** 39, -(10 ** 39)]
NO_SHIFTS = NO_NUMBERS + [-1, 65, 10 ** 39, -(10 ** 39)]
SOME_FORMS = [Shifted(0), Shifted(64), Scaled(0, 0), Scaled(MOST_FACTOR, 64), Early(0, 5, 1), More(11, 3), Wide(5, 1)]


def twos(d):
    return len(bin(d)) - len(bin(d).rstrip("0"))


class Divisors(Case):
    def test_taken(self):
        for width in range(4, 33):
            for d in (1, 2, 3, 2 ** (width - 1), 2 ** width - 2, 2 ** width - 1):
                self.assertIs(need_divisor(width, d), None)

    def test_refused(self):
        for width in (4, 5, 17, 31, 32):
            for thing in no_divisors(width):
                self.refused(NoDivisor, {"found": thing}, need_divisor, width, thing)
                self.refused(NoDivisor, {"found": thing}, corner_words, width, thing)
        for thing in NO_WIDTHS:
            for d in (1, 0, None):
                self.refused(NoWidth, {"found": thing}, need_divisor, thing, d)
                self.refused(NoWidth, {"found": thing}, corner_words, thing, d)

    def test_twos(self):
        for d in range(1, 600):
            self.same(twos_in(d), twos(d), d)
        for k in range(65):
            self.same(twos_in(2 ** k), k)
            for odd in (3, 5, 2 ** 32 - 1):
                if odd * 2 ** k <= 2 ** 64:
                    self.same(twos_in(odd * 2 ** k), k)
        self.same(twos_in(2 ** 64 - 1), 0)


class Reckonings(Case):
    def test_brought(self):
        for reckoning in [(0, 0, 0, 0), (0, 1, 0, 0), (1, 1, 0, 0), (2, 5, 3, 4), (0, 11, 11, 5), (3, 171, 7, 9)]:
            early, factor, addend, total = reckoning
            for x in range(200):
                self.same(brought(reckoning, x), (factor * (x // 2 ** early) + addend) // 2 ** total, reckoning, x)

    def test_the_ends_of_its_numbers(self):
        self.same(brought((64, 2 ** 70, 2 ** 70, 130), 2 ** 32 - 1), 0)
        self.same(brought((0, 2 ** 70, 2 ** 70, 0), 2 ** 32 - 1), 2 ** 102)
        self.same(brought((0, 2 ** 70, 2 ** 70, 130), 2 ** 64), 16)
        self.same(brought((64, 2 ** 70, 0, 69), 2 ** 64), 2)
        self.same(brought((0, 3, 1, 1), 10 ** 39), (3 * 10 ** 39 + 1) // 2)


class Forms(Case):
    def test_the_classes(self):
        for kind in (Shifted, Scaled, Early, More, Wide):
            self.assertTrue(issubclass(kind, Form))
            for other in (Shifted, Scaled, Early, More, Wide):
                self.assertEqual(issubclass(kind, other), kind is other)

    def look_at(self, form, word, fields, numbers):
        self.same(form.word(), word)
        self.same(form.told(), (word,) + tuple(fields.values()))
        for name, number in fields.items():
            self.same(getattr(form, name), number)
        for width in (4, 5, 31, 32):
            reckoning = numbers(width)
            self.same(form.numbers_in(width), reckoning, form.told())
            for x in (0, 1, 2 ** (width - 1), 2 ** width - 2, 2 ** width - 1):
                early, factor, addend, total = reckoning
                self.same(form.quotient(width, x), (factor * (x // 2 ** early) + addend) // 2 ** total, form.told())

    def test_told(self):
        for shift in (0, 1, 5, 31, 32, 63, 64):
            self.look_at(Shifted(shift), "shifted", {"shift": shift}, lambda w: (0, 1, 0, shift))
            for factor in (0, 1, 11, 2 ** 31, MOST_FACTOR):
                fields = {"factor": factor, "shift": shift}
                self.look_at(Scaled(factor, shift), "scaled", fields, lambda w: (0, factor, 0, w + shift))
                self.look_at(More(factor, shift), "more", fields, lambda w: (0, factor, factor, w + shift))
                if shift != 0:
                    self.look_at(Wide(factor, shift), "wide", fields, lambda w: (0, 2 ** w + factor, 0, w + shift))
                for early in (0, 1, 31, 64):
                    fields = {"early": early, "factor": factor, "shift": shift}
                    form = Early(early, factor, shift)
                    self.look_at(form, "early", fields, lambda w: (early, factor, 0, w + shift))

    def test_a_quotient_may_be_above_all_words(self):
        self.same(More(MOST_FACTOR, 0).quotient(4, 15), MOST_FACTOR)
        self.same(Wide(MOST_FACTOR, 1).quotient(4, 15), 15 * (16 + MOST_FACTOR) // 32)

    def test_refused_numbers(self):
        for thing in NO_SHIFTS:
            self.refused(NoForm, {"found": ("shifted", thing)}, Shifted, thing)
            self.refused(NoForm, {"found": ("scaled", 3, thing)}, Scaled, 3, thing)
            self.refused(NoForm, {"found": ("more", 3, thing)}, More, 3, thing)
            self.refused(NoForm, {"found": ("wide", 3, thing)}, Wide, 3, thing)
            self.refused(NoForm, {"found": ("early", 1, 3, thing)}, Early, 1, 3, thing)
            self.refused(NoForm, {"found": ("early", thing, 3, 1)}, Early, thing, 3, 1)
        for thing in NO_FACTORS:
            self.refused(NoForm, {"found": ("scaled", thing, 1)}, Scaled, thing, 1)
            self.refused(NoForm, {"found": ("more", thing, 1)}, More, thing, 1)
            self.refused(NoForm, {"found": ("wide", thing, 1)}, Wide, thing, 1)
            self.refused(NoForm, {"found": ("early", 1, thing, 1)}, Early, 1, thing, 1)
            self.refused(NoForm, {"found": ("early", thing, thing, thing)}, Early, thing, thing, thing)
        for factor in (0, 3, MOST_FACTOR):
            self.refused(NoForm, {"found": ("wide", factor, 0)}, Wide, factor, 0)

    def test_no_width(self):
        for thing in NO_WIDTHS:
            for form in SOME_FORMS:
                self.refused(NoWidth, {"found": thing}, form.numbers_in, thing)
                self.refused(NoWidth, {"found": thing}, form.quotient, thing, 1)

    def test_a_form_stays_as_it_is(self):
        for form in SOME_FORMS:
            before = dict(vars(form))
            for width in (4, 32):
                form.numbers_in(width)
                form.quotient(width, 15)
                is_right(width, 4, form)
                wrong_word(width, 4, form)
                is_wrong_word(width, 4, form, 1)
            self.same(vars(form), before)


class Corners(Case):
    def wanted(self, last, d):
        many = last // d
        found = {0, min(d - 1, last), many * d, last}
        if many != 0:
            found.add(many * d - 1)
        return sorted(found)

    def test_small_numbers(self):
        for last in range(40):
            for d in range(1, 45):
                self.same(corners_to(last, d), self.wanted(last, d), last, d)

    def test_told(self):
        self.same(corners_to(0, 1), [0])
        self.same(corners_to(0, 9), [0])
        self.same(corners_to(15, 1), [0, 14, 15])
        self.same(corners_to(15, 4), [0, 3, 11, 12, 15])
        self.same(corners_to(15, 8), [0, 7, 8, 15])
        self.same(corners_to(15, 15), [0, 14, 15])
        self.same(corners_to(7, 9), [0, 7])
        self.same(corners_to(2 ** 64, 2 ** 64), [0, 2 ** 64 - 1, 2 ** 64])

    def test_great_numbers(self):
        for last in (2 ** 32 - 1, 2 ** 63, 2 ** 64 - 1, 2 ** 64):
            for d in (1, 2, 3, 7, 2 ** 31, 2 ** 32, 2 ** 63 - 1, 2 ** 64 - 1, 2 ** 64):
                self.same(counted(corners_to, last, d), self.wanted(last, d), last, d)

    def test_corner_words(self):
        for width in range(4, 8):
            for d in range(1, 2 ** width):
                self.same(corner_words(width, d), self.wanted(2 ** width - 1, d))
        for width in (8, 31, 32):
            for d in great_divisors(width):
                self.same(corner_words(width, d), self.wanted(2 ** width - 1, d))

    def test_new_each_time(self):
        self.fresh(corners_to, 100, 7)
        self.fresh(corner_words, 8, 7)

    def test_what_is_right_at_the_corners_is_right(self):
        for last in (0, 1, 6, 7, 8, 20, 21, 22):
            for d in (1, 2, 3, 7, 12, 30):
                for reckoning in [(0, f, a, 6) for f in range(66) for a in (0, 1, 5, 20, 63, 64)]:
                    right = [brought(reckoning, x) == x // d for x in range(last + 1)]
                    self.assertEqual(all(right[x] for x in corners_to(last, d)), all(right), (last, d, reckoning))


def near_forms(width, d):
    """The candidates of a divisor, and forms whose numbers are a few off theirs."""
    forms = []
    for form in candidates(width, d):
        forms.append(form)
        for off in (-2, -1, 1, 2):
            numbers = list(form.told()[1:])
            place = -2 if len(numbers) > 1 else -1
            numbers[place] += off
            if numbers[place] >= 0:
                forms.append(type(form)(*numbers))
    return forms + [Scaled(0, 0), More(0, 0), Scaled(MOST_FACTOR, 0), More(MOST_FACTOR, 1), Wide(MOST_FACTOR, 1)]


def some_reckonings(width, d):
    """Reckonings for a divisor, of every early shift that it lets be."""
    found = [(0, 0, 0, 0), (0, 0, 2 ** 70, 70), (0, 2 ** 70, 0, 130), (0, 2 ** 70, 2 ** 70, 0), (0, 1, 0, 0), (0, 0, 1, 130)]
    for early in range(twos(d) + 1):
        for total in (width - 2, width, width + 1, width + 4):
            below = 2 ** total * 2 ** early // d
            for factor in (below, below + 1):
                for addend in (0, 1, factor, 2 ** (total - 1), 2 ** total - 1, 2 ** total):
                    found.append((early, factor, addend, total))
    return found


class RightAndWrong(Case):
    def test_two_ways_to_find_the_wrong_word_agree(self):
        for width in (4, 5, 6):
            for d in range(1, 2 ** width):
                for reckoning in some_reckonings(width, d):
                    self.assertEqual(by_blocks(width, d, reckoning), walked(width, d, reckoning), (width, d, reckoning))

    def test_forms_against_a_walk(self):
        for width in range(4, 8):
            for d in range(1, 2 ** width):
                for form in near_forms(width, d):
                    wrong = walked(width, d, form.numbers_in(width))
                    self.same(is_right(width, d, form), wrong is None, width, d, form.told())
                    self.same(wrong_word(width, d, form), wrong, width, d, form.told())
                    self.assertIs(is_wrong_word(width, d, form, wrong), True, (width, d, form.told()))

    def test_reckonings_against_a_walk(self):
        for width in range(4, 8):
            for d in range(1, 2 ** width):
                for reckoning in some_reckonings(width, d):
                    wrong = walked(width, d, reckoning)
                    self.same(reckoning_is_right(width, d, reckoning), wrong is None, width, d, reckoning)
                    self.same(reckoning_wrong(width, d, reckoning), wrong, width, d, reckoning)

    def test_of_any_thing(self):
        for width in (4, 5):
            words = list(range(2 ** width))
            for d in range(1, 2 ** width, 2):
                for form in near_forms(width, d)[::3]:
                    wrong = wrong_word(width, d, form)
                    for thing in words + [-1, 2 ** width, 10 ** 39, -(10 ** 39)] + NO_NUMBERS:
                        found = is_wrong_word(width, d, form, thing)
                        self.same(found, same(thing, wrong), width, d, form.told(), thing)

    def test_true_and_false_are_no_words(self):
        self.same(wrong_word(4, 2, Shifted(0)), 1)
        self.assertIs(is_wrong_word(4, 2, Shifted(0), 1), True)
        self.assertIs(is_wrong_word(4, 2, Shifted(0), True), False)
        self.same(wrong_word(4, 3, More(MOST_FACTOR, 0)), 0)
        self.assertIs(is_wrong_word(4, 3, More(MOST_FACTOR, 0), 0), True)
        self.assertIs(is_wrong_word(4, 3, More(MOST_FACTOR, 0), False), False)

    def test_great_widths(self):
        for width in (16, 31, 32):
            for d in great_divisors(width):
                forms = candidates(width, d)
                for form in forms[:3] + forms[3::5] + forms[-2:]:
                    wrong = by_blocks(width, d, form.numbers_in(width))
                    self.same(is_right(width, d, form), wrong is None, width, d, form.told())
                    self.same(wrong_word(width, d, form), wrong, width, d, form.told())
                    self.assertIs(is_wrong_word(width, d, form, wrong), True)
                    for thing in (0, 2 ** width - 1, None, 1):
                        self.assertIs(is_wrong_word(width, d, form, thing), same(thing, wrong))

    def test_great_reckonings(self):
        for width in (31, 32):
            for d in great_divisors(width)[::5]:
                for reckoning in some_reckonings(width, d)[::7]:
                    wrong = by_blocks(width, d, reckoning)
                    self.same(reckoning_is_right(width, d, reckoning), wrong is None, width, d, reckoning)
                    self.same(reckoning_wrong(width, d, reckoning), wrong, width, d, reckoning)

    def test_told(self):
        self.assertIs(is_right(32, 3, Scaled(0xAAAAAAAB, 1)), True)
        self.assertIs(is_right(32, 7, Wide(0x24924925, 3)), True)
        self.assertIs(is_right(32, 641, Scaled(6700417, 0)), True)
        self.same(wrong_word(32, 3, Scaled(0xAAAAAAAA, 1)), 3)
        self.same(wrong_word(4, 5, Shifted(2)), 4)

    def test_within_the_steps(self):
        for d in (1, 7, 2 ** 31, 2 ** 32 - 1, 10 ** 9):
            for form in (Scaled(1, 0), Shifted(31), More(MOST_FACTOR, 31), Wide(7, 32), Scaled(2 ** 32 // d & MOST_FACTOR, 0)):
                counted(is_right, 32, d, form)
                counted(wrong_word, 32, d, form)
                counted(is_wrong_word, 32, d, form, 2 ** 32 - 1)
                counted(reckoning_wrong, 32, d, form.numbers_in(32))


class RefusedForms(Case):
    def each(self, width, d, form, reckoning):
        return [
            (is_right, (width, d, form)), (wrong_word, (width, d, form)), (is_wrong_word, (width, d, form, None)),
            (is_wrong_word, (width, d, form, 3)), (is_wrong_word, (width, d, form, "x")),
            (reckoning_is_right, (width, d, reckoning)), (reckoning_wrong, (width, d, reckoning)),
        ]

    def test_the_width_first_then_the_divisor(self):
        bad_form, bad_reckoning = Early(64, 1, 0), None
        for thing in NO_WIDTHS:
            for call, things in self.each(thing, 0, bad_form, bad_reckoning):
                self.refused(NoWidth, {"found": thing}, call, *things)
        for width in (4, 32):
            for thing in no_divisors(width):
                for call, things in self.each(width, thing, bad_form, bad_reckoning):
                    self.refused(NoDivisor, {"found": thing}, call, *things)

    def test_an_early_shift_above_the_twos(self):
        for width in (4, 8, 32):
            for d in (1, 2, 3, 4, 6, 8, 12, 15):
                for early in (0, 1, 2, 3, 4, 5, 64):
                    form, reckoning = Early(early, 9, 2), (early, 9, 1, 7)
                    calls = self.each(width, d, form, reckoning)
                    for place, (call, things) in enumerate(calls):
                        if early <= twos(d):
                            call(*things)
                        else:
                            found = form.told() if place < 5 else reckoning
                            self.refused(NoForm, {"found": found}, call, *things)

    def test_no_reckonings(self):
        for thing in NO_NUMBERS + [
            0, 5, (0, 1, 0), (0, 1, 0, 0, 0), [0, 1, 0, 4], (-1, 1, 0, 4), (65, 1, 0, 4), (0, -1, 0, 4),
            (0, 2 ** 70 + 1, 0, 4), (0, 1, -1, 4), (0, 1, 2 ** 70 + 1, 4), (0, 1, 0, -1), (0, 1, 0, 131), (True, 1, 0, 4),
            (0, True, 0, 4), (0, 1, False, 4), (0, 1, 0, True), (None, 1, 0, 4), (0, "1", 0, 4), (0, 1, [0], 4),
            (0, 1, 0, (4,)), ((0, 1, 0, 4),), {0: 1, 1: 1, 2: 0, 3: 4}, "0104", Scaled(3, 1),
        ]:
            for d in (1, 3, 12):
                self.refused(NoForm, {"found": thing}, reckoning_is_right, 4, d, thing)
                self.refused(NoForm, {"found": thing}, reckoning_wrong, 4, d, thing)

    def test_the_ends_of_reckonings_are_taken(self):
        for reckoning in [(0, 0, 0, 0), (0, 2 ** 70, 0, 130), (0, 0, 2 ** 70, 130), (0, 2 ** 70, 2 ** 70, 0)]:
            for width in (4, 32):
                for d in (1, 3, 15):
                    self.same(reckoning_is_right(width, d, reckoning), by_blocks(width, d, reckoning) is None)
        self.same(reckoning_wrong(4, 8, (3, 1, 0, 0)), None)
        self.same(reckoning_wrong(32, 2 ** 31, (31, 1, 0, 0)), None)


if __name__ == "__main__":
    unittest.main()
