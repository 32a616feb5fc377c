import unittest

from overwise.choice import candidates, form_words
from overwise.errors import NoDivisor, NoForm, NoPrices, NoWidth
from overwise.forms import Early, Form, More, Scaled, Shifted, Wide
from overwise.signs import (
    Cutting, SignedForm, Turned, is_wrong_count, need_signed_divisor, price_of_signed, right_for_signed,
    signed_candidates, signed_choose, signed_corners, signed_corners_to, signed_words, signed_wrong,
)
from tests.helper import (
    NO_NUMBERS, NO_TABLES, NO_WIDTHS, TABLES, Case, by_blocks, counted, great_divisors, prices_of, same,
)

MOST_FACTOR = 2 ** 32 - 1
SOME_FORMS = [
    Cutting(0, 0), Cutting(11, 1), Cutting(MOST_FACTOR, 64), Turned(Shifted(2)), Turned(Early(0, 5, 1)),
    Turned(More(7, 3)), Turned(Wide(5, 1)), Turned(Scaled(11, 1)),
]


def no_divisors(width):
    return NO_NUMBERS + [0, -1, 2 ** (width - 1) + 1, 2 ** width - 1, 2 ** width, 10 ** 39, -(10 ** 39)]


def signed_divisors(width):
    return [d for d in great_divisors(width) if d <= 2 ** (width - 1)]


def cut(x, d):
    return abs(x) // d * (1 if x >= 0 else -1)


def brought(width, told, x):
    """The number to which a signed form that tells this brings a count, by the document alone."""
    if told[0] == "cutting":
        return told[1] * x // 2 ** (width + told[2]) + (1 if x < 0 else 0)
    early, factor, addend, total = numbers_of(width, told[1])
    number = (factor * (abs(x) // 2 ** early) + addend) // 2 ** total
    return number if x >= 0 else -number


def numbers_of(width, told):
    return {
        "shifted": lambda shift: (0, 1, 0, shift),
        "scaled": lambda factor, shift: (0, factor, 0, width + shift),
        "early": lambda early, factor, shift: (early, factor, 0, width + shift),
        "more": lambda factor, shift: (0, factor, factor, width + shift),
        "wide": lambda factor, shift: (0, 2 ** width + factor, 0, width + shift),
    }[told[0]](*told[1:])


def away_from_nought(width):
    half = 2 ** (width - 1)
    found = [0]
    for far in range(1, half):
        found += [far, -far]
    return found + [-half]


def walked(width, d, told):
    """The wrong count by a walk of all counts away from nought."""
    for x in away_from_nought(width):
        if brought(width, told, x) != cut(x, d):
            return x
    return None


def without_a_walk(width, d, told):
    """The same for great widths: the least count above nought, and the one below, that are wrong, by inequalities."""
    half = 2 ** (width - 1)
    if told[0] == "cutting":
        above = by_blocks(width, d, (0, told[1], 0, width + told[2]))
        below = cutting_below(width, d, told[1], width + told[2])
    else:
        above = by_blocks(width, d, numbers_of(width, told[1]))
        below = None if above is None else -above
    if above is not None and above < half and (below is None or above <= -below):
        return above
    return below if below is not None and below >= -half else None


def cutting_below(width, d, factor, total):
    """Where factor * x // 2 ** total + 1 is first wrong for a count x below nought; n is 0 - x."""
    # Brought is 0 - (factor * n - 1) // 2 ** total, so each n goes as n - 1 with the addend factor - 1.
    if factor == 0:
        return -1
    power = 2 ** total
    step = factor * d - power
    blocks = []
    if step <= 0:
        blocks.append(1)
    over = power + 1 - factor * (d - 1)
    if over <= 0:
        blocks.append(0)
    elif step > 0:
        blocks.append(-(-over // step))
    wrong = []
    for q in blocks:
        if q > 0 and factor * q * d - 1 < q * power:
            wrong.append(q * d)
        else:
            wrong.append(max(1, q * d, -(-((q + 1) * power + 1) // factor)))
    return -min(wrong)


class Divisors(Case):
    def test_taken(self):
        for width in range(4, 33):
            for d in (1, 2, 3, 2 ** (width - 1) - 1, 2 ** (width - 1)):
                self.assertIs(need_signed_divisor(width, d), None)

    def test_refused(self):
        for width in (4, 5, 17, 31, 32):
            for thing in no_divisors(width):
                for call in (need_signed_divisor, signed_corners, signed_candidates):
                    self.refused(NoDivisor, {"found": thing}, call, width, thing)
        for thing in NO_WIDTHS:
            for call in (need_signed_divisor, signed_corners, signed_candidates):
                for d in (1, 0, None):
                    self.refused(NoWidth, {"found": thing}, call, thing, d)


class SignedForms(Case):
    def test_the_classes(self):
        for one, other in ((Cutting, Turned), (Turned, Cutting)):
            self.assertTrue(issubclass(one, SignedForm))
            self.assertFalse(issubclass(one, other))
            self.assertFalse(issubclass(one, Form))
        self.assertFalse(issubclass(SignedForm, Form))

    def test_cutting(self):
        for factor in (0, 1, 11, 2 ** 31, MOST_FACTOR):
            for shift in (0, 1, 31, 63, 64):
                form = Cutting(factor, shift)
                self.same((form.factor, form.shift), (factor, shift))
                self.same(form.word(), "cutting")
                self.same(form.told(), ("cutting", factor, shift))
                self.look_at_quotients(form)

    def test_turned(self):
        for inner in [Shifted(0), Shifted(64), Scaled(11, 1), Early(3, 9, 2), More(MOST_FACTOR, 0), Wide(5, 1)]:
            form = Turned(inner)
            self.same(form.form.told(), inner.told())
            self.same(form.word(), "turned")
            self.same(form.told(), ("turned", inner.told()))
            self.look_at_quotients(form)

    def look_at_quotients(self, form):
        for width in (4, 5, 32):
            half = 2 ** (width - 1)
            for x in [-half, -half + 1, -9, -8, -7, -3, -2, -1, 0, 1, 2, 3, 7, half - 2, half - 1]:
                if -half <= x < half:
                    self.same(form.quotient(width, x), brought(width, form.told(), x), width, form.told(), x)

    def test_told(self):
        self.assertEqual([Cutting(6, 0).quotient(4, x) for x in range(-8, 8)], [-2, -2, -2, -1, -1, -1, 0, 0] + [0, 0, 0, 1, 1, 1, 2, 2])
        self.assertEqual([Turned(Shifted(1)).quotient(4, x) for x in range(-8, 8)], [-4, -3, -3, -2, -2, -1, -1, 0] + [0, 0, 1, 1, 2, 2, 3, 3])

    def test_refused_numbers(self):
        for thing in NO_NUMBERS + [-1, 10 ** 39, -(10 ** 39)]:
            self.refused(NoForm, {"found": ("cutting", thing, 1)}, Cutting, thing, 1)
            self.refused(NoForm, {"found": ("cutting", 1, thing)}, Cutting, 1, thing)
            self.refused(NoForm, {"found": ("cutting", thing, thing)}, Cutting, thing, thing)
        self.refused(NoForm, {"found": ("cutting", 2 ** 32, 1)}, Cutting, 2 ** 32, 1)
        self.refused(NoForm, {"found": ("cutting", 1, 65)}, Cutting, 1, 65)

    def test_what_is_no_form_is_not_turned(self):
        for thing in NO_NUMBERS + [0, 1, ("shifted", 1), ["shifted", 1], ("scaled", 11, 1), Cutting(1, 1), Turned(Shifted(1))]:
            self.refused(NoForm, {"found": thing}, Turned, thing)

    def test_no_width(self):
        for thing in NO_WIDTHS:
            for form in SOME_FORMS:
                for x in (-1, 0, 1):
                    self.refused(NoWidth, {"found": thing}, form.quotient, thing, x)

    def test_a_signed_form_stays_as_it_is(self):
        for form in SOME_FORMS:
            before = form.told()
            for width in (4, 32):
                form.quotient(width, -8)
                right_for_signed(width, 3, form)
                signed_wrong(width, 3, form)
                is_wrong_count(width, 3, form, -1)
                signed_words(form).clear()
            self.same(form.told(), before)


class Corners(Case):
    def wanted(self, up, down, d):
        found = set()
        if up >= 0:
            found |= {0, min(d - 1, up), up // d * d, up}
            if up // d != 0:
                found.add(up // d * d - 1)
        if down > 0:
            many = down // d
            found |= {x for x in (-(d - 1), -(many * d - 1), -many * d, -down) if -down <= x < 0}
        return sorted(found)

    def test_small_numbers(self):
        for up in range(-1, 20):
            for down in range(-1, 20):
                for d in range(1, 23):
                    self.same(signed_corners_to(up, down, d), self.wanted(up, down, d), up, down, d)

    def test_told(self):
        self.same(signed_corners_to(-1, -1, 3), [])
        self.same(signed_corners_to(-1, 0, 3), [])
        self.same(signed_corners_to(0, 0, 3), [0])
        self.same(signed_corners_to(-1, 5, 9), [-5])
        self.same(signed_corners_to(7, 8, 3), [-8, -6, -5, -2, 0, 2, 5, 6, 7])
        self.same(signed_corners_to(7, 8, 8), [-8, -7, 0, 7])
        self.same(signed_corners_to(7, 8, 1), [-8, -7, 0, 6, 7])

    def test_great_numbers(self):
        for up, down in ((2 ** 64, 2 ** 64), (2 ** 31 - 1, 2 ** 31), (-1, 2 ** 64), (2 ** 64, -1), (5, 2 ** 40)):
            for d in (1, 2, 3, 7, 2 ** 31, 2 ** 31 + 1, 2 ** 64 - 1, 2 ** 64):
                self.same(counted(signed_corners_to, up, down, d), self.wanted(up, down, d), up, down, d)

    def test_of_a_width(self):
        for width in range(4, 33):
            half = 2 ** (width - 1)
            for d in range(1, half + 1) if width < 8 else signed_divisors(width)[::4] + [half]:
                self.same(signed_corners(width, d), self.wanted(half - 1, half, d), width, d)

    def test_new_each_time(self):
        self.fresh(signed_corners_to, 20, 30, 7)
        self.fresh(signed_corners, 8, 7)


def near_forms(width, d):
    """The signed candidates of a divisor, and forms whose numbers are a few off theirs."""
    forms = []
    for form in signed_candidates(width, d):
        forms.append(form)
        inner = form if isinstance(form, Cutting) else form.form
        for off in (-2, -1, 1, 2):
            numbers = list(inner.told()[1:])
            place = -2 if len(numbers) > 1 else -1
            numbers[place] += off
            if numbers[place] >= 0:
                made = type(inner)(*numbers)
                forms.append(made if isinstance(form, Cutting) else Turned(made))
    return forms + [Cutting(0, 0), Cutting(1, 64), Cutting(MOST_FACTOR, 0), Turned(More(MOST_FACTOR, 0)), Turned(Scaled(0, 0))]


class RightAndWrong(Case):
    def test_against_a_walk(self):
        for width in range(4, 8):
            for d in range(1, 2 ** (width - 1) + 1):
                for form in near_forms(width, d):
                    wrong = walked(width, d, form.told())
                    self.same(right_for_signed(width, d, form), wrong is None, width, d, form.told())
                    self.same(signed_wrong(width, d, form), wrong, width, d, form.told())
                    self.assertIs(is_wrong_count(width, d, form, wrong), True, (width, d, form.told()))

    def test_of_any_thing(self):
        for width in (4, 5):
            half = 2 ** (width - 1)
            for d in range(1, half + 1):
                for form in near_forms(width, d)[::2]:
                    wrong = signed_wrong(width, d, form)
                    for thing in list(range(-half - 1, half + 1)) + [10 ** 39, -(10 ** 39)] + NO_NUMBERS:
                        found = is_wrong_count(width, d, form, thing)
                        self.same(found, same(thing, wrong), width, d, form.told(), thing)

    def test_true_and_false_are_no_counts(self):
        self.same(signed_wrong(4, 2, Turned(Shifted(0))), 1)
        self.assertIs(is_wrong_count(4, 2, Turned(Shifted(0)), True), False)
        self.same(signed_wrong(4, 2, Turned(More(MOST_FACTOR, 0))), 0)
        self.assertIs(is_wrong_count(4, 2, Turned(More(MOST_FACTOR, 0)), 0), True)
        self.assertIs(is_wrong_count(4, 2, Turned(More(MOST_FACTOR, 0)), False), False)

    def test_the_side_of_the_wrong_count(self):
        self.same(signed_wrong(4, 2, Cutting(0, 0)), -1)
        self.same(signed_wrong(4, 2, Cutting(8, 0)), -2)
        self.same(signed_wrong(4, 8, Turned(Scaled(0, 0))), -8)
        self.assertIs(is_wrong_count(4, 8, Turned(Scaled(0, 0)), -8), True)
        self.assertIs(is_wrong_count(4, 8, Turned(Scaled(0, 0)), 8), False)

    def test_two_ways_to_find_the_wrong_count_agree(self):
        for width in (4, 5, 6):
            for d in range(1, 2 ** (width - 1) + 1):
                for form in near_forms(width, d):
                    told = form.told()
                    self.assertEqual(without_a_walk(width, d, told), walked(width, d, told), (width, d, told))

    def test_great_widths(self):
        for width in (16, 31, 32):
            half = 2 ** (width - 1)
            for d in signed_divisors(width):
                forms = signed_candidates(width, d)
                for form in forms[:2] + forms[2::5] + forms[-2:]:
                    wrong = without_a_walk(width, d, form.told())
                    self.same(right_for_signed(width, d, form), wrong is None, width, d, form.told())
                    self.same(signed_wrong(width, d, form), wrong, width, d, form.told())
                    self.assertIs(is_wrong_count(width, d, form, wrong), True)
                    for thing in (0, 1, -1, half - 1, -half, None):
                        self.assertIs(is_wrong_count(width, d, form, thing), same(thing, wrong))

    def test_told(self):
        self.assertIs(right_for_signed(32, 3, Cutting(0x55555556, 0)), True)
        self.assertIs(right_for_signed(32, 7, Cutting(0x92492493, 2)), True)
        self.assertIs(right_for_signed(32, 5, Cutting(0x66666667, 1)), True)
        self.same(signed_wrong(32, 3, Cutting(0x55555555, 0)), 3)

    def test_within_the_steps(self):
        for d in (1, 7, 10 ** 9, 2 ** 31 - 1, 2 ** 31):
            for form in SOME_FORMS + signed_candidates(32, d)[::9]:
                counted(right_for_signed, 32, d, form)
                counted(signed_wrong, 32, d, form)
                counted(is_wrong_count, 32, d, form, -(2 ** 31))
                counted(is_wrong_count, 32, d, form, 2 ** 31 - 1)


class Refused(Case):
    def each(self, width, d, form):
        return [
            (right_for_signed, (width, d, form)), (signed_wrong, (width, d, form)),
            (is_wrong_count, (width, d, form, None)), (is_wrong_count, (width, d, form, 3)),
            (is_wrong_count, (width, d, form, "x")),
        ]

    def test_the_width_first_then_the_divisor(self):
        for form in (Cutting(3, 1), Turned(Early(64, 1, 0))):
            for thing in NO_WIDTHS:
                for call, things in self.each(thing, 0, form):
                    self.refused(NoWidth, {"found": thing}, call, *things)
            for width in (4, 32):
                for thing in no_divisors(width):
                    for call, things in self.each(width, thing, form):
                        self.refused(NoDivisor, {"found": thing}, call, *things)

    def test_an_early_shift_above_the_twos(self):
        for width in (4, 8, 32):
            for d in (1, 2, 3, 4, 6, 8):
                twos = len(bin(d)) - len(bin(d).rstrip("0"))
                for early in (0, 1, 2, 3, 4, 64):
                    form = Turned(Early(early, 9, 2))
                    for call, things in self.each(width, d, form):
                        if early <= twos:
                            call(*things)
                        else:
                            self.refused(NoForm, {"found": ("turned", ("early", early, 9, 2))}, call, *things)


def wanted_candidates(width, d):
    size, told, k = 2 ** width, [], 0
    while k == 0 or 2 ** (k - 1) <= d - 1:
        factor = size * 2 ** k // d + 1
        if factor < size:
            told.append(("cutting", factor, k))
        k += 1
    return told + [("turned", form.told()) for form in candidates(width, d)]


def wanted_words(told, inner_words):
    if told[0] == "cutting":
        return ["set", "high", "right", "gap", "and", "gap"] + (["slide"] if told[2] else []) + ["sum"]
    return ["right", "gap", "unlike", "gap"] + inner_words + ["unlike", "gap"]


def words_of(form):
    return wanted_words(form.told(), [] if isinstance(form, Cutting) else form_words(form.form))


class Choosing(Case):
    def look_at_candidates(self, width, d):
        found = signed_candidates(width, d)
        self.assertIs(type(found), list)
        self.same([form.told() for form in found], wanted_candidates(width, d), width, d)
        for form in found:
            self.assertIs(type(form), Cutting if form.word() == "cutting" else Turned)

    def test_candidates(self):
        for width in range(4, 8):
            for d in range(1, 2 ** (width - 1) + 1):
                self.look_at_candidates(width, d)
        for width in (8, 16, 31, 32):
            for d in signed_divisors(width):
                self.look_at_candidates(width, d)
        self.fresh(signed_candidates, 8, 12)

    def test_candidates_told(self):
        self.same([form.told() for form in signed_candidates(4, 3)][:2], [("cutting", 6, 0), ("cutting", 11, 1)])
        self.same([form.told() for form in signed_candidates(4, 1)], [("turned", ("shifted", 0)), ("turned", ("more", 15, 0))])

    def test_row_words(self):
        self.same(signed_words(Cutting(3, 0)), ["set", "high", "right", "gap", "and", "gap", "sum"])
        self.same(signed_words(Cutting(3, 1)), ["set", "high", "right", "gap", "and", "gap", "slide", "sum"])
        self.same(signed_words(Turned(Shifted(0))), ["right", "gap", "unlike", "gap", "unlike", "gap"])
        self.same(signed_words(Turned(Wide(3, 2))), [
            "right", "gap", "unlike", "gap", "set", "high", "gap", "right", "sum", "right", "unlike", "gap",
        ])
        for form in SOME_FORMS:
            self.same(signed_words(form), words_of(form), form.told())
            self.fresh(signed_words, form)

    def test_prices(self):
        for form in SOME_FORMS:
            for table in TABLES:
                before = dict(table)
                wanted = sum(table[word] for word in words_of(form))
                self.same(price_of_signed(form, table), wanted, form.told())
                self.same(price_of_signed(form, {"other": "x", **table, 0: None}), wanted, form.told())
                self.same(table, before)
            for thing in NO_TABLES:
                self.refused(NoPrices, {"found": thing}, price_of_signed, form, thing)

    def look_at(self, width, d, table, wrong_of):
        forms = signed_candidates(width, d)
        ordered = sorted((sum(table[word] for word in words_of(form)), place) for place, form in enumerate(forms))
        refused = []
        for price, place in ordered:
            told = forms[place].told()
            wrong = wrong_of(width, d, told)
            if wrong is None:
                break
            refused.append((told, wrong))
        else:
            self.fail("no signed candidate is right")
        answer = signed_choose(width, d, table)
        self.assertIs(type(answer), tuple)
        self.same((answer[0].told(), [(form.told(), count) for form, count in answer[1]]), (told, refused), width, d, table)

    def test_small_widths(self):
        for width in range(4, 7):
            for d in range(1, 2 ** (width - 1) + 1):
                for table in TABLES:
                    self.look_at(width, d, table, walked)

    def test_width_7(self):
        for d in range(1, 65):
            self.look_at(7, d, TABLES[0], walked)
            self.look_at(7, d, TABLES[d % len(TABLES)], walked)

    def test_great_widths(self):
        for width in (16, 31, 32):
            for place, d in enumerate(signed_divisors(width)):
                self.look_at(width, d, TABLES[place % len(TABLES)], without_a_walk)

    def test_told(self):
        table = prices_of(high=5, low=4, unlike=2)
        self.same(signed_choose(32, 3, table)[0].told(), ("cutting", 0x55555556, 0))
        self.same(signed_choose(32, 7, table)[0].told(), ("cutting", 0x92492493, 2))
        self.same(signed_choose(32, 1, table)[0].told(), ("turned", ("shifted", 0)))

    def test_new_each_time(self):
        self.fresh(signed_choose, 8, 7, prices_of())
        self.fresh(signed_choose, 8, 100, prices_of(unlike=0))

    def test_the_prices_stay_and_are_not_kept(self):
        table = prices_of(set=2)
        answer = signed_choose(8, 7, table)
        told = (answer[0].told(), [(form.told(), count) for form, count in answer[1]])
        self.same(table, prices_of(set=2))
        table["set"] = 1000
        self.same((answer[0].told(), [(form.told(), count) for form, count in answer[1]]), told)

    def test_refused_in_order(self):
        for thing in NO_WIDTHS:
            self.refused(NoWidth, {"found": thing}, signed_choose, thing, 0, None)
        for width in (4, 32):
            for thing in no_divisors(width):
                self.refused(NoDivisor, {"found": thing}, signed_choose, width, thing, None)
        for d in (1, 3, 8):
            for thing in NO_TABLES:
                self.refused(NoPrices, {"found": thing}, signed_choose, 4, d, thing)

    def test_within_the_steps(self):
        for d in (1, 7, 2 ** 30 + 1, 2 ** 31 - 1, 2 ** 31):
            for table in TABLES[:3] + TABLES[-4:]:
                counted(signed_choose, 32, d, table)


if __name__ == "__main__":
    unittest.main()
