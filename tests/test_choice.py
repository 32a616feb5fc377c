import unittest

from overwise.choice import candidates, choose, form_words, least_total, line_at, price_of_form, why_none
from overwise.errors import NoDivisor, NoPrices, NoWidth
from overwise.forms import Early, More, Scaled, Shifted, Wide, is_right, is_wrong_word
from tests.helper import (
    NO_TABLES, NO_WIDTHS, TABLES, Case, by_blocks, counted, great_divisors, no_divisors, prices_of, walked,
)

KINDS = {"shifted": Shifted, "scaled": Scaled, "early": Early, "more": More, "wide": Wide}


def up(top, bottom):
    return (top + bottom - 1) // bottom


def length(number):
    return len(bin(number)) - 2 if number else 0


def wanted_candidates(width, d):
    """What the candidates tell, by the document alone."""
    size, most = 2 ** width, length(d - 1)
    told = [("shifted", length(d) - 1)]
    told += [("scaled", up(size * 2 ** k, d), k) for k in range(most + 1) if up(size * 2 ** k, d) < size]
    odd, twos = d, 0
    while odd % 2 == 0:
        odd, twos = odd // 2, twos + 1
    if twos:
        factors = [(up(size * 2 ** k, odd), k) for k in range(length(odd - 1) + 1)]
        told += [("early", twos, factor, k) for factor, k in factors if factor < size]
    factors = [((size * 2 ** k - 1) // d, k) for k in range(most + 1)]
    told += [("more", factor, k) for factor, k in factors if 1 <= factor <= size - 1]
    if most:
        told.append(("wide", up(size * 2 ** most, d) - size, most))
    return told


def wanted_words(told):
    """The row words of a form, by the document alone."""
    words = {
        "shifted": [], "scaled": ["set", "high"], "early": ["right", "set", "high"],
        "more": ["set", "low", "sum", "high", "sum"], "wide": ["set", "high", "gap", "right", "sum"],
    }[told[0]]
    return words + (["right"] if told[-1] > (1 if told[0] == "wide" else 0) else [])


def wanted_choice(width, d, prices, wrong_of):
    """What choose tells, by the document alone, each form as what it tells."""
    forms = wanted_candidates(width, d)
    ordered = sorted((sum(prices[word] for word in wanted_words(told)), place) for place, told in enumerate(forms))
    refused = []
    for price, place in ordered:
        wrong = wrong_of(width, d, KINDS[forms[place][0]](*forms[place][1:]).numbers_in(width))
        if wrong is None:
            return (forms[place], refused)
        refused.append((forms[place], wrong))
    raise AssertionError("no candidate is right")


def told_choice(answer):
    return (answer[0].told(), [(form.told(), word) for form, word in answer[1]])


class Candidates(Case):
    def look_at(self, width, d):
        found = candidates(width, d)
        self.assertIs(type(found), list)
        self.same([form.told() for form in found], wanted_candidates(width, d), width, d)
        for form in found:
            self.assertIs(type(form), KINDS[form.word()])
        return found

    def test_small_widths(self):
        for width in range(4, 8):
            for d in range(1, 2 ** width):
                found = self.look_at(width, d)
                last = found[-1] if d > 1 else found[0]
                self.same(walked(width, d, last.numbers_in(width)), None)

    def test_great_widths(self):
        for width in (8, 15, 16, 31, 32):
            for d in great_divisors(width):
                found = self.look_at(width, d)
                last = found[-1] if d > 1 else found[0]
                self.same(by_blocks(width, d, last.numbers_in(width)), None)

    def test_told(self):
        self.same([form.told() for form in candidates(4, 1)], [("shifted", 0), ("more", 15, 0)])
        self.same([form.told() for form in candidates(4, 6)], [
            ("shifted", 2), ("scaled", 3, 0), ("scaled", 6, 1), ("scaled", 11, 2), ("early", 1, 6, 0),
            ("early", 1, 11, 1), ("more", 2, 0), ("more", 5, 1), ("more", 10, 2), ("wide", 6, 3),
        ])

    def test_new_each_time(self):
        self.fresh(candidates, 8, 12)

    def test_refused(self):
        for thing in NO_WIDTHS:
            self.refused(NoWidth, {"found": thing}, candidates, thing, 0)
        for width in (4, 32):
            for thing in no_divisors(width):
                self.refused(NoDivisor, {"found": thing}, candidates, width, thing)

    def test_within_the_steps(self):
        for d in (1, 2, 3, 2 ** 31, 2 ** 31 + 1, 2 ** 32 - 2, 2 ** 32 - 1):
            counted(candidates, 32, d)


class RowWordsAndPrices(Case):
    def forms(self):
        found = []
        for shift in (0, 1, 2, 3, 64):
            found += [Shifted(shift), Scaled(9, shift), Early(0, 9, shift), Early(3, 9, shift), More(9, shift)]
            found += [Wide(9, shift)] if shift else []
        return found

    def test_words(self):
        for form in self.forms():
            self.same(form_words(form), wanted_words(form.told()), form.told())
            self.fresh(form_words, form)

    def test_words_told(self):
        self.same(form_words(Shifted(0)), [])
        self.same(form_words(Shifted(1)), ["right"])
        self.same(form_words(Scaled(3, 0)), ["set", "high"])
        self.same(form_words(Scaled(3, 2)), ["set", "high", "right"])
        self.same(form_words(Early(1, 3, 0)), ["right", "set", "high"])
        self.same(form_words(Early(1, 3, 1)), ["right", "set", "high", "right"])
        self.same(form_words(More(3, 0)), ["set", "low", "sum", "high", "sum"])
        self.same(form_words(More(3, 1)), ["set", "low", "sum", "high", "sum", "right"])
        self.same(form_words(Wide(3, 1)), ["set", "high", "gap", "right", "sum"])
        self.same(form_words(Wide(3, 2)), ["set", "high", "gap", "right", "sum", "right"])

    def test_prices(self):
        for form in self.forms():
            for table in TABLES:
                before = dict(table)
                wanted = sum(table[word] for word in wanted_words(form.told()))
                self.same(price_of_form(form, table), wanted, form.told())
                self.same(price_of_form(form, {"other": "x", **table, 0: None}), wanted, form.told())
                self.same(table, before)

    def test_no_prices(self):
        for form in self.forms()[:7]:
            for thing in NO_TABLES:
                self.refused(NoPrices, {"found": thing}, price_of_form, form, thing)


class Choosing(Case):
    def look_at(self, width, d, table, wrong_of):
        answer = choose(width, d, table)
        self.same(told_choice(answer), wanted_choice(width, d, table, wrong_of), width, d, table)
        self.assertIs(type(answer), tuple)
        self.assertIs(is_right(width, d, answer[0]), True)
        for form, word in answer[1]:
            self.assertIs(is_wrong_word(width, d, form, word), True)

    def test_small_widths(self):
        for width in range(4, 7):
            for d in range(1, 2 ** width):
                for table in TABLES:
                    self.look_at(width, d, table, walked)

    def test_width_7(self):
        for d in range(1, 128):
            self.look_at(7, d, TABLES[0], walked)
            self.look_at(7, d, TABLES[d % len(TABLES)], walked)

    def test_great_widths(self):
        for width in (16, 31, 32):
            for place, d in enumerate(great_divisors(width)):
                self.look_at(width, d, TABLES[place % len(TABLES)], by_blocks)

    def test_told(self):
        table = prices_of(high=5, low=4)
        self.same(choose(32, 3, table)[0].told(), ("scaled", 0xAAAAAAAB, 1))
        self.same(choose(32, 10, table)[0].told(), ("scaled", 0xCCCCCCCD, 3))
        self.same(choose(32, 641, table)[0].told(), ("scaled", 6700417, 0))
        self.same(choose(32, 16, table)[0].told(), ("shifted", 4))
        self.same(choose(32, 1, table)[0].told(), ("shifted", 0))
        self.same(choose(32, 1, table)[1], [])
        self.same(choose(32, 28, table)[0].told(), ("early", 2, 0x24924925, 0))

    def test_a_new_list_each_time(self):
        self.fresh(choose, 8, 7, prices_of())
        self.fresh(choose, 8, 100, prices_of(right=0))

    def test_the_prices_stay_and_are_not_kept(self):
        table = prices_of(set=2)
        answer = choose(8, 7, table)
        told = told_choice(answer)
        self.same(table, prices_of(set=2))
        table["set"] = 1000
        self.same(told_choice(answer), told)
        turned = {"other": None}
        for word in reversed(list(prices_of())):
            turned[word] = prices_of(set=2)[word]
        self.same(told_choice(choose(8, 7, turned)), told)

    def test_refused_in_order(self):
        for thing in NO_WIDTHS:
            self.refused(NoWidth, {"found": thing}, choose, thing, 0, None)
        for width in (4, 32):
            for thing in no_divisors(width):
                self.refused(NoDivisor, {"found": thing}, choose, width, thing, None)
        for d in (1, 3, 15):
            for thing in NO_TABLES:
                self.refused(NoPrices, {"found": thing}, choose, 4, d, thing)

    def test_within_the_steps(self):
        for d in (1, 7, 2 ** 31 + 1, 2 ** 32 - 2, 2 ** 32 - 1, 4 * 10 ** 9 + 2):
            for table in TABLES[:3] + TABLES[-4:]:
                counted(choose, 32, d, table)


class NoOtherFactor(Case):
    def test_against_a_walk(self):
        for width in range(4, 7):
            for d in range(1, 2 ** width):
                for k in range(width + 1):
                    factor = up(2 ** (width + k), d)
                    wrong = walked(width, d, (0, factor, 0, width + k))
                    self.same(why_none(width, d, k), (factor, wrong), width, d, k)

    def test_no_lesser_and_no_greater_factor(self):
        for width in (4, 5):
            for d in range(1, 2 ** width):
                for k in range(width + 1):
                    factor, word = why_none(width, d, k)
                    for lesser in range(max(0, factor - 20), factor):
                        wrong = walked(width, d, (0, lesser, 0, width + k))
                        self.assertTrue(wrong is not None and wrong <= d)
                    if word is not None:
                        for greater in range(factor + 1, factor + 20):
                            wrong = walked(width, d, (0, greater, 0, width + k))
                            self.assertTrue(wrong is not None and wrong <= word)

    def test_great_widths(self):
        for width in (16, 31, 32):
            for d in great_divisors(width):
                for k in (0, 1, length(d - 1) - 1, length(d - 1), width - 1, width):
                    if k >= 0:
                        factor = up(2 ** (width + k), d)
                        wanted = (factor, by_blocks(width, d, (0, factor, 0, width + k)))
                        self.same(why_none(width, d, k), wanted, width, d, k)

    def test_refused(self):
        for thing in NO_WIDTHS:
            self.refused(NoWidth, {"found": thing}, why_none, thing, 0, 0)
        for width in (4, 32):
            for thing in no_divisors(width):
                self.refused(NoDivisor, {"found": thing}, why_none, width, thing, 0)

    def test_within_the_steps(self):
        for d in (1, 7, 2 ** 32 - 1):
            for k in (0, 16, 32):
                counted(why_none, 32, d, k)

    def test_somewhat_beyond_the_bound_nothing_is_refused(self):
        self.same(why_none(32, 1, 40), (2 ** 72, None))


def any_line(width, d, total):
    """Whether any factor and addend from 0 on are right with a total, by a search over all that can be."""
    power = 2 ** total
    for factor in range(2 * power + 1):
        low, high = 0, power - 1
        for x in range(2 ** width):
            low = max(low, (x // d) * power - factor * x)
            high = min(high, (x // d + 1) * power - 1 - factor * x)
            if low > high:
                break
        if low <= high:
            return True
    return False


def wanted_line(width, d, total, wrong_of):
    """What line_at tells, by the document alone."""
    power, many = 2 ** total, (2 ** width - 1) // d
    first = up(power, d)
    if wrong_of(width, d, (0, first, 0, total)) is None:
        return (first, 0)
    second = (power - 1) // d
    addend = many * (power - second * d)
    return (second, addend) if wrong_of(width, d, (0, second, addend, total)) is None else None


class Lines(Case):
    def test_the_told_one(self):
        for width in range(4, 8):
            for d in range(1, 2 ** width):
                for total in range(2 * width + 2):
                    wanted = wanted_line(width, d, total, walked)
                    self.same(line_at(width, d, total), wanted, width, d, total)

    def test_none_where_a_search_finds_none(self):
        for width, most in ((4, 8), (5, 10)):
            for d in range(1, 2 ** width):
                for total in range(most):
                    found = line_at(width, d, total)
                    self.assertEqual(found is not None, any_line(width, d, total), (width, d, total))

    def test_great_widths(self):
        for width in (16, 31, 32):
            for d in great_divisors(width)[::3]:
                for total in (0, 1, width - 1, width, width + 1, width + length(d - 1) - 1, width + length(d - 1), 69, 70):
                    wanted = wanted_line(width, d, total, by_blocks)
                    self.same(line_at(width, d, total), wanted, width, d, total)

    def test_least_total_against_a_search(self):
        for width in (4, 5):
            for d in range(1, 2 ** width):
                total, factor, addend = least_total(width, d)
                self.same(least_total(width, d), (total, factor, addend))
                self.assertTrue(any_line(width, d, total))
                self.assertFalse(any(any_line(width, d, lesser) for lesser in range(total)))
                self.same(walked(width, d, (0, factor, addend, total)), None)

    def test_least_total(self):
        for width in (6, 7, 16, 31, 32):
            for d in great_divisors(width):
                wrong_of = walked if width < 8 else by_blocks
                total = 0
                while wanted_line(width, d, total, wrong_of) is None:
                    total += 1
                self.same(least_total(width, d), (total,) + wanted_line(width, d, total, wrong_of), width, d)
                self.assertLessEqual(total, width + length(d - 1))

    def test_told(self):
        self.same(line_at(4, 1, 0), (1, 0))
        self.same(line_at(4, 3, 0), None)
        self.same(least_total(4, 1), (0, 1, 0))
        self.same(least_total(4, 4), (2, 1, 0))
        self.same(line_at(32, 1, 70), (2 ** 70, 0))

    def test_refused(self):
        for thing in NO_WIDTHS:
            self.refused(NoWidth, {"found": thing}, line_at, thing, 0, 0)
            self.refused(NoWidth, {"found": thing}, least_total, thing, 0)
        for width in (4, 32):
            for thing in no_divisors(width):
                self.refused(NoDivisor, {"found": thing}, line_at, width, thing, 0)
                self.refused(NoDivisor, {"found": thing}, least_total, width, thing)

    def test_within_the_steps(self):
        for d in (1, 7, 2 ** 31 + 1, 2 ** 32 - 1):
            counted(line_at, 32, d, 70)
            counted(least_total, 32, d)

    def test_somewhat_beyond_the_bound_nothing_is_refused(self):
        self.same(line_at(32, 1, 75), (2 ** 75, 0))


if __name__ == "__main__":
    unittest.main()
