import unittest

from overwise.errors import NoPrices
from overwise.prices import need_prices, row_words
from tests.helper import NO_TABLES, TABLES, Case, prices_of

WORDS = [
    "set", "copy", "sum", "gap", "low", "high", "left", "right", "slide", "and", "or", "unlike", "under", "pick", "mark",
    "turns",
]


class RowWords(Case):
    def test_told(self):
        self.same(row_words(), WORDS)

    def test_new_each_time(self):
        self.fresh(row_words)


class Prices(Case):
    def test_just_the_words_in_their_order(self):
        for table in TABLES:
            self.same(need_prices(table), {word: table[word] for word in WORDS})

    def test_another_order_and_other_keys(self):
        table = {word: place * 7 for place, word in enumerate(WORDS)}
        turned = {"other": None, 0: -1}
        for word in reversed(WORDS):
            turned[word] = table[word]
        turned[(1, 2)] = "x"
        turned["SET"] = 10 ** 39
        self.same(need_prices(turned), table)

    def test_the_ends(self):
        for word in WORDS:
            for price in (0, 1, 999, 1000):
                self.same(need_prices({**prices_of(), word: price})[word], price)

    def test_one_bad_price(self):
        for word in WORDS:
            for price in (-1, 1001, True, False, None, "1", "", [1], (1,), {}, 10 ** 39, -(10 ** 39)):
                table = {**prices_of(), word: price}
                self.refused(NoPrices, {"found": table}, need_prices, table)

    def test_one_word_lacking(self):
        for lacking in WORDS:
            table = {word: 1 for word in WORDS if word != lacking}
            self.refused(NoPrices, {"found": table}, need_prices, table)
            table["other"] = 1
            self.refused(NoPrices, {"found": table}, need_prices, table)

    def test_no_tables(self):
        for thing in NO_TABLES:
            self.refused(NoPrices, {"found": thing}, need_prices, thing)

    def test_a_new_dict_that_has_nothing_in_common(self):
        table = prices_of(set=5)
        self.fresh(need_prices, table)
        told = need_prices(table)
        self.assertIsNot(told, table)
        told["set"] = 9
        told["other"] = 9
        self.same(table, prices_of(set=5))
        table["set"] = 3
        self.same(told["set"], 9)
        self.same(need_prices(table)["set"], 3)


if __name__ == "__main__":
    unittest.main()
