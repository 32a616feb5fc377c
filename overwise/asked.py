"""Lines of the desk that ask of divisors, fractions and longs, whatever program is kept.

Each function here tells None where the words behind the first one don't have the form of the line.
"""

from overwise.choice import choose
from overwise.corners import corners
from overwise.division import long_divided
from overwise.errors import NoWord
from overwise.exact import exact, is_multiple
from overwise.figures import (
    choice_text, either_read, fraction_read, fraction_text, number_read, numbers_read, told_text,
)
from overwise.forms import Early, More, Scaled, Shifted, Wide, need_divisor, wrong_word
from overwise.longs import long_of, number_of
from overwise.miss import exact_form, miss_of
from overwise.signs import signed_choose
from overwise.ways import way_of
from overwise.words import is_word

# How many numbers stand behind the word of each form.
FORM_NUMBERS = {"shifted": 1, "scaled": 2, "early": 3, "more": 2, "wide": 2}


def chosen_text(chosen):
    """A chosen form and the refused ones ahead of it [115]."""
    return choice_text(chosen[0].told(), [(pair[0].told(), pair[1]) for pair in chosen[1]])


def ask_form(words, prices):
    """The form that is chosen for a divisor [115]."""
    numbers = numbers_read(words)
    if numbers is None or len(numbers) != 2:
        return None
    return chosen_text(choose(numbers[0], numbers[1], prices))


def ask_signed(words, prices):
    """The signed form that is chosen for a divisor [115]."""
    numbers = numbers_read(words)
    if numbers is None or len(numbers) != 2:
        return None
    return chosen_text(signed_choose(numbers[0], numbers[1], prices))


def form_made(word, numbers):
    """The form of a word and its numbers."""
    if word == "shifted":
        return Shifted(numbers[0])
    if word == "scaled":
        return Scaled(numbers[0], numbers[1])
    if word == "early":
        return Early(numbers[0], numbers[1], numbers[2])
    if word == "more":
        return More(numbers[0], numbers[1])
    return Wide(numbers[0], numbers[1])


def ask_wrong(words):
    """The wrong word of a form [115]."""
    numbers = numbers_read(words[:2] + words[3:])
    if numbers is None or len(words) < 3 or FORM_NUMBERS.get(words[2]) != len(words) - 3:
        return None
    need_divisor(numbers[0], numbers[1])
    word = wrong_word(numbers[0], numbers[1], form_made(words[2], numbers[2:]))
    return "none" if word is None else str(word)


def ask_inverse(words):
    """The twos in a divisor and the inverse of the rest of it [115]."""
    numbers = numbers_read(words)
    if numbers is None or len(numbers) != 2:
        return None
    return told_text(exact(numbers[0], numbers[1]))


def ask_multiple(words):
    """Whether a word is a multiple of a divisor [115]."""
    numbers = numbers_read(words)
    if numbers is None or len(numbers) != 3:
        return None
    need_divisor(numbers[0], numbers[1])
    if not is_word(numbers[0], numbers[2]):
        raise NoWord(numbers[2])
    return "yes" if is_multiple(numbers[0], numbers[1], numbers[2]) else "no"


def ask_round(words):
    """The whole number to which a way rounds a fraction [116]."""
    pair = fraction_read(words[1]) if len(words) == 2 else None
    if pair is None or pair[1] == 0:
        return None
    return str(way_of(words[0]).rounded(pair[0], pair[1]))


def unsigned_read(word):
    """A fraction of two numbers without a sign, None where a word tells none."""
    return None if word.startswith("-") else fraction_read(word)


def ask_exactly(words):
    """The exact form of a fraction [116]."""
    if len(words) != 2:
        return None
    width = number_read(words[0])
    pair = unsigned_read(words[1])
    if width is None or pair is None:
        return None
    row = exact_form(width, pair[0], pair[1])
    return "none" if row is None else told_text(row)


def ask_miss(words):
    """How far a row may miss a product by a fraction [116]."""
    if len(words) != 5:
        return None
    pair = unsigned_read(words[1])
    numbers = numbers_read(words[:1] + words[2:])
    if pair is None or numbers is None:
        return None
    found = miss_of(numbers[0], pair[0], pair[1], numbers[1], numbers[2], numbers[3])
    above = fraction_text(found[0]) + " at " + str(found[1])
    return above + " " + fraction_text(found[2]) + " at " + str(found[3])


def ask_corners(words):
    """The corners beneath a line [116]."""
    if len(words) != 4:
        return None
    numbers = [number_read(words[0]), either_read(words[1]), either_read(words[2]), number_read(words[3])]
    if None in numbers:
        return None
    points = corners(numbers[0], numbers[1], numbers[2], numbers[3])
    return " ".join([str(point[0]) + "," + str(point[1]) for point in points])


def ask_divide(words):
    """A division of longs, and how often its guesses go back [116]."""
    numbers = numbers_read(words)
    if numbers is None or len(numbers) != 3:
        return None
    width = numbers[0]
    found = long_divided(width, long_of(width, numbers[1]), long_of(width, numbers[2]))
    back = sum([row[2] for row in found[2]])
    parts = ["quotient", str(number_of(width, found[0])), "rest", str(number_of(width, found[1])), "back", str(back)]
    return " ".join(parts)


def asked(words, prices):
    """The answer to a line that asks of divisors, fractions or longs, None where the words have no such form."""
    first = words[0]
    behind = words[1:]
    if first == "form":
        return ask_form(behind, prices)
    if first == "signed":
        return ask_signed(behind, prices)
    if first == "wrong":
        return ask_wrong(behind)
    if first == "inverse":
        return ask_inverse(behind)
    if first == "multiple":
        return ask_multiple(behind)
    if first == "round":
        return ask_round(behind)
    if first == "exactly":
        return ask_exactly(behind)
    if first == "miss":
        return ask_miss(behind)
    if first == "corners":
        return ask_corners(behind)
    if first == "divide":
        return ask_divide(behind)
    return None
