"""Prices of the machine's rows."""

from overwise.errors import NoPrices
from overwise.words import is_between

ROW_WORDS = (
    "set", "copy", "sum", "gap", "low", "high", "left", "right",
    "slide", "and", "or", "unlike", "under", "pick", "mark", "turns",
)


def row_words():
    """The words of the machine's rows, in their order [27]."""
    return list(ROW_WORDS)


def need_prices(prices):
    """A new table of just the rows' words and their prices [27]."""
    if not isinstance(prices, dict):
        raise NoPrices(prices)
    table = {}
    for word in ROW_WORDS:
        price = prices.get(word)
        if not is_between(price, 0, 1000):
            raise NoPrices(prices)
        table[word] = price
    return table
