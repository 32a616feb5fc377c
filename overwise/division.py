"""Dividing longs digit by digit, each digit guessed a bit at a time, and looking at such a division without trust."""

from overwise.errors import NoDivisor, NothingBy, NoWord
from overwise.longs import (
    add_words, compared, has_long, moved_left, moved_right, need_long, need_longs, product_by_word, take_words, trimmed,
    word_at,
)
from overwise.words import is_between, is_whole, is_word, need_width


def turn_to(width, bottom):
    """How many bits a long that is not [] lacks to fill its last word [63]."""
    return width - bottom[-1].bit_length()


def turn_of(width, bottom):
    """How many bits a long is to be moved left so that its last word is H or more [63]."""
    need_long(width, bottom)
    if bottom == []:
        raise NothingBy()
    return turn_to(width, bottom)


def need_division(width, top, bottom):
    """Refuse what are no longs, then nothing to divide by [64]."""
    need_longs(width, top, bottom)
    if bottom == []:
        raise NothingBy()


def count_steps(top, bottom):
    """How many digits a division has [64]."""
    return max(0, len(top) - len(bottom) + 1)


def steps_ahead(width, top, bottom):
    """How many digits a division has [64]."""
    need_division(width, top, bottom)
    return count_steps(top, bottom)


def bits_ahead(width, top, bottom):
    """How many bits all guesses of a division have together [64]."""
    need_division(width, top, bottom)
    return count_steps(top, bottom) * width


def need_guess(width, high, low, word):
    """Refuse what can't be guessed by [63]."""
    need_width(width)
    if not is_word(width, high):
        raise NoWord(high)
    if not is_word(width, low):
        raise NoWord(low)
    if not is_word(width, word) or word < 1 << (width - 1):
        raise NoDivisor(word)
    if high > word:
        raise NoWord(high)


def guess_rows(width, high, low, word):
    """The rows (bit, rest) in which a guess is made without a divider [63]."""
    need_guess(width, high, low, word)
    rows = []
    rest = high
    for place in range(width - 1, -1, -1):
        rest = 2 * rest + ((low >> place) & 1)
        bit = 1 if rest >= word else 0
        rest = rest - bit * word
        rows.append((bit, rest))
    return rows


def guess_of(width, high, low, word):
    """The quotient of two words by one, but at most B - 1 [63]."""
    guess = 0
    for row in guess_rows(width, high, low, word):
        guess = 2 * guess + row[0]
    return guess


def divide_step(width, divided, lower):
    """The guess, how often it goes back, the digit and the rest of what is divided by the lower long, moved [64]."""
    place = len(lower)
    guess = guess_of(width, word_at(divided, place), word_at(divided, place - 1), lower[-1])
    digit = guess
    product = product_by_word(width, lower, digit)
    while compared(product, divided) > 0:
        digit = digit - 1
        product = take_words(width, product, lower)[0]
    return (guess, guess - digit, digit, take_words(width, divided, product)[0])


def long_divided(width, top, bottom):
    """The quotient, the rest and the rows of a division of longs [64], [65]."""
    need_division(width, top, bottom)
    steps = count_steps(top, bottom)
    turn = turn_to(width, bottom)
    lower = moved_left(width, bottom, turn)
    upper = moved_left(width, top, turn)
    rest = upper[steps:]
    rows = []
    digits = []
    for place in range(steps - 1, -1, -1):
        step = divide_step(width, trimmed([word_at(upper, place)] + rest), lower)
        rest = step[3]
        rows.append((place, step[0], step[1], step[2], rest))
        digits.insert(0, step[2])
    return (trimmed(digits), moved_right(width, rest, turn), rows)


def is_guess(width, divided, lower, thing):
    """Whether a thing, whatever it is, is the guess for what is divided, by a product and comparing [66]."""
    if not is_word(width, thing):
        return False
    place = len(lower)
    pair = (word_at(divided, place) << width) + word_at(divided, place - 1)
    product = thing * lower[-1]
    return product <= pair and (thing == (1 << width) - 1 or pair < product + lower[-1])


def is_row(width, place, divided, lower, thing):
    """Whether a thing, whatever it is, is the row at a place, what is divided there being known [66]."""
    if not isinstance(thing, tuple) or len(thing) != 5 or not is_between(thing[0], place, place):
        return False
    if not is_guess(width, divided, lower, thing[1]):
        return False
    if not is_whole(thing[2]) or not is_word(width, thing[3]) or thing[2] + thing[3] != thing[1]:
        return False
    # A rest below the lower long leaves one digit alone that can stand here.
    if not has_long(width, thing[4]) or compared(thing[4], lower) >= 0:
        return False
    return add_words(width, product_by_word(width, lower, thing[3]), thing[4])[0] == divided


def is_division(width, top, bottom, quotient, rest, rows):
    """Whether three things, whatever they are, are what a division of longs tells [66]."""
    need_division(width, top, bottom)
    steps = count_steps(top, bottom)
    if not has_long(width, quotient) or not has_long(width, rest):
        return False
    if not isinstance(rows, list) or len(rows) != steps:
        return False
    turn = turn_to(width, bottom)
    lower = moved_left(width, bottom, turn)
    upper = moved_left(width, top, turn)
    remains = upper[steps:]
    for place in range(steps - 1, -1, -1):
        row = rows[steps - 1 - place]
        if not is_row(width, place, trimmed([word_at(upper, place)] + remains), lower, row):
            return False
        remains = row[4]
    digits = [row[3] for row in reversed(rows)]
    return quotient == trimmed(digits) and moved_left(width, rest, turn) == remains


def worst(width):
    """An upper and a lower long whose division has a guess that goes back twice [67]."""
    need_width(width)
    half = 1 << (width - 1)
    return ([0, half, half - 1], [2 * half - 1, half])
