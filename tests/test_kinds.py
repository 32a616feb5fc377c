import unittest
from fractions import Fraction

from overwise.errors import NoKind, NoText, NoWidth, NoWord
from overwise.kinds import Kind, Plain, Pointed, Signed, same_kind
from tests.helper import NO_NUMBERS, NO_WIDTHS, Case, counted



def kinds_of(width):
    points = sorted({1, 2, width // 2, width - 2, width - 1})
    return [Plain(width), Signed(width)] + [Pointed(width, point) for point in points]


def all_kinds():
    return [kind for width in range(4, 33) for kind in kinds_of(width)]


def ends_of(kind):
    """The least and the greatest count, by the document alone."""
    half = 2 ** (kind.width - 1)
    return (0, 2 * half - 1) if isinstance(kind, Plain) else (-half, half - 1)


def some_bits(kind):
    half = 2 ** (kind.width - 1)
    if kind.width <= 6:
        return range(2 * half)
    return [0, 1, 2, 3, half - 2, half - 1, half, half + 1, 2 * half - 2, 2 * half - 1, half // 3, half + half // 3]


class Making(Case):
    def test_the_classes(self):
        for kind in (Plain, Signed, Pointed):
            self.assertTrue(issubclass(kind, Kind))
            for other in (Plain, Signed, Pointed):
                self.assertEqual(issubclass(kind, other), kind is other)

    def test_fields(self):
        for width in range(4, 33):
            for kind in (Plain(width), Signed(width)):
                self.same(kind.width, width)
                self.same(kind.point, 0)
            for point in range(1, width):
                self.same(Pointed(width, point).width, width)
                self.same(Pointed(width, point).point, point)

    def test_what_is_no_width_is_refused(self):
        for thing in NO_WIDTHS:
            self.refused(NoWidth, {"found": thing}, Plain, thing)
            self.refused(NoWidth, {"found": thing}, Signed, thing)
            self.refused(NoWidth, {"found": thing}, Pointed, thing, 1)
            self.refused(NoWidth, {"found": thing}, Pointed, thing, None)

    def test_what_is_no_point_is_refused(self):
        for width in (4, 5, 17, 32):
            for thing in NO_NUMBERS + [0, -1, width, width + 1, 10 ** 39, -10 ** 39]:
                self.refused(NoKind, {"found": thing}, Pointed, width, thing)

    def test_same_kind(self):
        made = [kind for width in (4, 5, 32) for kind in kinds_of(width)]
        again = [kind for width in (4, 5, 32) for kind in kinds_of(width)]
        for place, one in enumerate(made):
            for other_place, other in enumerate(again):
                self.assertIs(same_kind(one, other), place == other_place, (place, other_place))


class Counts(Case):
    def test_word_and_ends(self):
        for kind in all_kinds():
            word = "plain" if isinstance(kind, Plain) else "signed" if isinstance(kind, Signed) else "point"
            self.same(kind.word(), word)
            self.same(kind.least(), ends_of(kind)[0])
            self.same(kind.greatest(), ends_of(kind)[1])

    def test_bits_and_counts_both_ways(self):
        for kind in all_kinds():
            for bits in some_bits(kind):
                count = bits if bits <= ends_of(kind)[1] else bits - 2 ** kind.width
                self.same(kind.count_of(bits), count)
                self.same(kind.bits_of(count), bits)

    def test_values(self):
        for kind in all_kinds():
            for bits in some_bits(kind):
                count = bits if bits <= ends_of(kind)[1] else bits - 2 ** kind.width
                value = Fraction(count, 2 ** kind.point)
                self.same(kind.value_of(bits), (value.numerator, value.denominator))

    def test_values_told(self):
        self.same(Pointed(4, 2).value_of(0), (0, 1))
        self.same(Pointed(4, 2).value_of(6), (3, 2))
        self.same(Pointed(4, 2).value_of(9), (-7, 4))
        self.same(Plain(4).value_of(12), (12, 1))
        self.same(Signed(4).value_of(12), (-4, 1))
        self.same(Pointed(32, 31).value_of(2 ** 31), (-1, 1))

    def test_no_bits(self):
        for kind in [kind for width in (4, 9, 32) for kind in kinds_of(width)]:
            for thing in NO_NUMBERS + [-1, 2 ** kind.width, 10 ** 39, -10 ** 39]:
                self.refused(NoWord, {"found": thing}, kind.count_of, thing)
                self.refused(NoWord, {"found": thing}, kind.value_of, thing)
                self.refused(NoWord, {"found": thing}, kind.shown, thing)

    def test_no_counts(self):
        for kind in [kind for width in (4, 9, 32) for kind in kinds_of(width)]:
            low, high = ends_of(kind)
            for thing in NO_NUMBERS + [low - 1, high + 1, 10 ** 39, -10 ** 39]:
                self.refused(NoWord, {"found": thing}, kind.bits_of, thing)


class BroughtToWords(Case):
    def numbers(self, kind):
        low, high = ends_of(kind)
        size = 2 ** kind.width
        numbers = [low - 2, low - 1, low, low + 1, high - 1, high, high + 1, high + 2, 0, 1, -1]
        for many in (-3, -2, -1, 1, 2, 3, 10 ** 20):
            numbers += [many * size - 1, many * size, many * size + 1, many * size + size // 2]
        return numbers + [10 ** 39, 10 ** 40 - 1, -10 ** 39, 1 - 10 ** 40, 10 ** 39 + 12345]

    def test_going_round(self):
        for kind in all_kinds():
            low, high = ends_of(kind)
            for number in self.numbers(kind):
                self.same(kind.go_round(number), (number % 2 ** kind.width, not low <= number <= high), number)

    def test_stopping(self):
        for kind in all_kinds():
            low, high = ends_of(kind)
            for number in self.numbers(kind):
                nearest = low if number < low else high if number > high else number
                self.same(kind.stop_at(number), (nearest % 2 ** kind.width, not low <= number <= high), number)

    def test_all_numbers_about_a_small_width(self):
        for kind in kinds_of(4):
            low, high = ends_of(kind)
            for number in range(-50, 51):
                self.same(kind.go_round(number), (number % 16, not low <= number <= high))
                self.same(kind.stop_at(number), (max(low, min(high, number)) % 16, not low <= number <= high))


class Figures(Case):
    def test_told(self):
        self.same(Plain(4).shown(12), "12")
        self.same(Plain(32).shown(0), "0")
        self.same(Plain(32).shown(2 ** 32 - 1), "4294967295")
        self.same(Signed(8).shown(249), "-7")
        self.same(Signed(32).shown(2 ** 31), "-2147483648")
        self.same(Pointed(8, 2).shown(243), "-3.25")
        self.same(Pointed(8, 4).shown(1), "0.0625")
        self.same(Pointed(8, 4).shown(255), "-0.0625")
        self.same(Pointed(8, 4).shown(16), "1")
        self.same(Pointed(8, 4).shown(160), "-6")
        self.same(Pointed(32, 1).shown(2 ** 31 - 1), "1073741823.5")
        self.same(Pointed(32, 31).shown(1), "0.0000000004656612873077392578125")

    def test_shown_exactly_and_read_again(self):
        for kind in all_kinds():
            for bits in some_bits(kind):
                text = kind.shown(bits)
                value = Fraction(*kind.value_of(bits))
                self.assertEqual(Fraction(text), value)
                self.assertEqual(text.startswith("-"), value < 0)
                whole, point, behind = text.lstrip("-").partition(".")
                self.assertEqual(whole, str(int(whole)))
                self.assertEqual(bool(point), value.denominator != 1)
                self.assertFalse(behind.endswith("0"))
                self.same(kind.read(text), bits)

    def test_each_word_of_a_small_width(self):
        for width in (4, 5, 8):
            for kind in kinds_of(width):
                texts = [kind.shown(bits) for bits in range(2 ** width)]
                self.assertEqual(len(set(texts)), 2 ** width)
                for bits, text in enumerate(texts):
                    self.same(kind.read(text), bits)

    def test_other_texts_are_refused(self):
        for kind in kinds_of(4) + kinds_of(8):
            texts = {kind.shown(bits): bits for bits in range(2 ** kind.width)}
            for text in texts:
                behind = text + "0" if "." in text else text + ".0"
                for other in ["+" + text, "-" + text, "0" + text, " " + text, text + " ", behind, text + ".", text[1:],
                              text[:-1], text.replace(".", ","), text.replace(".", ""), text.replace("-", ""),
                              text.replace("-", "+"), text.replace("-", "-0"), text + "\n", text + "e0", "_" + text,
                              text.replace("0.", "."), text + "5", text + ".5", text + "." + text, text + "-"]:
                    if other in texts:
                        self.same(kind.read(other), texts[other])
                    else:
                        self.refused(NoText, {"found": other}, kind.read, other)

    def test_texts_that_no_kind_shows(self):
        for kind in kinds_of(4) + kinds_of(32):
            for text in ["", "-", ".", "-.", "-0", "00", "+1", "1/2", "0x1", "1e0", "0.0", "-0.0", "1_0", "None", "one",
                         "\u0661", "\u00b2", "0.\u0665", "--1", "1-", "1..5", "0.1", "0.3", " ", "1 ", "4294967296",
                         "-2147483649", "2" * 41, "1" + "0" * 7999, "0." + "0" * 7990 + "1", "-" * 8000, "0" * 8000,
                         "1" * 5000, "0." + "5" * 5000]:
                self.refused(NoText, {"found": text}, kind.read, text)

    def test_a_text_of_any_length(self):
        for kind in (Plain(4), Pointed(32, 31)):
            for text in ("1" * 300_000, "0." + "0" * 300_000, "-" + "7" * 300_000):
                with self.assertRaises(NoText) as refusal:
                    counted(kind.read, text, most=100_000)
                self.same(refusal.exception.found, text)

    def test_one_beyond_the_ends(self):
        for width in (4, 9, 31, 32):
            self.refused(NoText, {"found": str(2 ** width)}, Plain(width).read, str(2 ** width))
            self.refused(NoText, {"found": "-1"}, Plain(width).read, "-1")
            half = 2 ** (width - 1)
            self.refused(NoText, {"found": str(half)}, Signed(width).read, str(half))
            self.refused(NoText, {"found": str(-half - 1)}, Signed(width).read, str(-half - 1))
            self.refused(NoText, {"found": str(half // 2)}, Pointed(width, 1).read, str(half // 2))
            self.refused(NoText, {"found": f"-{half // 2}.5"}, Pointed(width, 1).read, f"-{half // 2}.5")

    def test_figures_that_the_point_does_not_reach(self):
        self.same(Pointed(8, 2).read("0.25"), 1)
        self.refused(NoText, {"found": "0.125"}, Pointed(8, 2).read, "0.125")
        self.refused(NoText, {"found": "0.5"}, Plain(8).read, "0.5")
        self.refused(NoText, {"found": "0.5"}, Signed(8).read, "0.5")

    def test_what_is_no_text(self):
        for kind in kinds_of(4) + kinds_of(32):
            for thing in [thing for thing in NO_NUMBERS if not isinstance(thing, str)] + [0, 1, -1, ["1"], ("1",)]:
                self.refused(NoText, {"found": thing}, kind.read, thing)


class Unchanging(Case):
    def test_a_kind_stays_as_it_is(self):
        for kind in kinds_of(4) + kinds_of(32):
            before = dict(vars(kind))
            kind.go_round(10 ** 39)
            kind.stop_at(-10 ** 39)
            kind.read(kind.shown(kind.bits_of(kind.least())))
            kind.value_of(1)
            self.refused(NoWord, {"found": None}, kind.count_of, None)
            self.refused(NoText, {"found": "x"}, kind.read, "x")
            self.same(vars(kind), before)

    def test_within_the_steps(self):
        for kind in kinds_of(32):
            for number in (10 ** 40 - 1, 1 - 10 ** 40):
                counted(kind.go_round, number)
                counted(kind.stop_at, number)
            for bits in (0, 1, 2 ** 31, 2 ** 32 - 1):
                counted(kind.read, counted(kind.shown, bits))
                counted(kind.value_of, bits)
            for text in ("1" * 8000, "0." + "1" * 7998):
                with self.assertRaises(NoText):
                    counted(kind.read, text)


if __name__ == "__main__":
    unittest.main()
