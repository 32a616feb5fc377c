"""Longs: numbers of several words, the least word first, reckoned with word by word."""

from overwise.errors import Lesser, NoLong, NoWord
from overwise.words import is_whole, is_word, need_width


def has_long(width, thing):
    """Whether a thing, whatever it is, is a long [60]; the width is one."""
    if not isinstance(thing, list) or not all([is_word(width, word) for word in thing]):
        return False
    return thing == [] or thing[-1] != 0


def is_long(width, thing):
    """Whether a thing, whatever it is, is a long [60]."""
    need_width(width)
    return has_long(width, thing)


def need_long(width, one):
    """Refuse what is no width, then what is no long [60]."""
    need_width(width)
    if not has_long(width, one):
        raise NoLong(one)


def need_longs(width, one, other):
    """Refuse what is no width, then the first of two things that is no long [60]."""
    need_long(width, one)
    need_long(width, other)


def trimmed(words):
    """The words without the noughts at their top, so that they are a long."""
    many = len(words)
    while many > 0 and words[many - 1] == 0:
        many = many - 1
    return words[:many]


def word_at(one, place):
    """The word at a place, 0 where a long has none."""
    return one[place] if place < len(one) else 0


def long_of(width, number):
    """The long of a whole number from 0 on [60]."""
    need_width(width)
    if not is_whole(number) or number < 0:
        raise NoLong(number)
    words = []
    while number > 0:
        words.append(number % (1 << width))
        number = number >> width
    return words


def number_of(width, one):
    """The number of a long [60]."""
    need_long(width, one)
    number = 0
    for word in reversed(one):
        number = (number << width) + word
    return number


def add_words(width, one, other):
    """The words of a sum, and the carries from each place to the next one [61]."""
    words = []
    goes_on = []
    carry = 0
    for place in range(max(len(one), len(other))):
        total = word_at(one, place) + word_at(other, place) + carry
        carry = total >> width
        words.append(total % (1 << width))
        goes_on.append(carry)
    if carry == 1:
        words.append(1)
    return (words, goes_on)


def long_sum(width, one, other):
    """The sum of two longs [61]."""
    need_longs(width, one, other)
    return add_words(width, one, other)[0]


def carries(width, one, other):
    """What goes on from each place of a sum to the next one [61]."""
    need_longs(width, one, other)
    return add_words(width, one, other)[1]


def take_words(width, one, other):
    """The words of a gap, the first long not being less, and the borrows from each place on [61]."""
    words = []
    goes_on = []
    borrow = 0
    for place in range(len(one)):
        gap = one[place] - word_at(other, place) - borrow
        borrow = 1 if gap < 0 else 0
        words.append(gap + (borrow << width))
        goes_on.append(borrow)
    return (trimmed(words), goes_on)


def need_gap(width, one, other):
    """Refuse what are no longs, then a first one that is less than the second [61]."""
    need_longs(width, one, other)
    if compared(one, other) < 0:
        raise Lesser()


def long_gap(width, one, other):
    """The first long less the second one [61]."""
    need_gap(width, one, other)
    return take_words(width, one, other)[0]


def borrows(width, one, other):
    """What goes on from each place of a gap to the next one [61]."""
    need_gap(width, one, other)
    return take_words(width, one, other)[1]


def compared(one, other):
    """-1, 0 or 1 as the first long's number is less, the same or greater [62]."""
    if len(one) != len(other):
        return -1 if len(one) < len(other) else 1
    for place in range(len(one) - 1, -1, -1):
        if one[place] != other[place]:
            return -1 if one[place] < other[place] else 1
    return 0


def long_compare(width, one, other):
    """-1, 0 or 1 as the first long's number is less, the same or greater [62]."""
    need_longs(width, one, other)
    return compared(one, other)


def product_by_word(width, one, word):
    """A long times a word [62]."""
    words = []
    carry = 0
    for each in one:
        total = each * word + carry
        words.append(total % (1 << width))
        carry = total >> width
    words.append(carry)
    return trimmed(words)


def times_word(width, one, word):
    """A long times a word [62]."""
    need_long(width, one)
    if not is_word(width, word):
        raise NoWord(word)
    return product_by_word(width, one, word)


def long_product(width, one, other):
    """A long times a long [62]."""
    need_longs(width, one, other)
    product = []
    for word in reversed(other):
        product = add_words(width, trimmed([0] + product), product_by_word(width, one, word))[0]
    return product


def moved_left(width, one, many):
    """A long's number times 2 ** many [62]."""
    nothing = [0 for place in range(many // width)]
    return trimmed(nothing + product_by_word(width, one, 1 << (many % width)))


def moved_right(width, one, many):
    """The quotient of a long's number by 2 ** many [62]."""
    whole = many // width
    bits = many % width
    words = []
    for place in range(whole, len(one)):
        pair = (word_at(one, place + 1) << width) + one[place]
        words.append((pair >> bits) % (1 << width))
    return trimmed(words)


def long_left(width, one, many):
    """A long moved left by many bits [62]."""
    need_long(width, one)
    return moved_left(width, one, many)


def long_right(width, one, many):
    """A long moved right by many bits [62]."""
    need_long(width, one)
    return moved_right(width, one, many)
