"""Rows of the machine for each deed of a program."""

from overwise.kinds import half
from overwise.quotients import (
    CARRY, DIVISOR, FACTOR, GAP, HALF, MASK, MORE, ONE, QUOTIENT, REST, SIGN, SIZE, adjust_steps, bit_steps,
    form_steps, more_steps, scaled_steps, sign_back_steps, signed_form_steps, size_steps,
)
from overwise.steps import (
    And, Copy, Gap, High, Left, Low, Mark, Or, Pick, Right, Set, Slide, Sum, Under, Unlike,
)

SUMS = ("add", "sub", "addstop", "substop")
# More names of the maker's own, for the other word of a product.
OTHER_SIGN = "s1"
OTHER_MASK = "m1"
OTHER_SIZE = "a1"
BEYOND = "b0"


def sum_row(row, goal, carry):
    """The sum or the gap of the two words that a row reads."""
    if row.deed in ("add", "addstop"):
        return Sum(goal, carry, row.reads[0], row.reads[1])
    return Gap(goal, carry, row.reads[0], row.reads[1])


def plain_sum_steps(kind, row):
    """A sum or a gap of plain words, that goes round or stops."""
    goal = row.goals[0]
    if row.deed in ("add", "sub"):
        return [sum_row(row, goal, CARRY), Mark(row.line, "round", CARRY)]
    end = kind.greatest() if row.deed == "addstop" else kind.least()
    return [
        sum_row(row, QUOTIENT, CARRY), Set(MORE, end), Pick(goal, CARRY, MORE, QUOTIENT), Mark(row.line, "stop", CARRY),
    ]


def beyond_steps(kind, row):
    """Rows that put by CARRY whether the sum or gap by QUOTIENT is no count of a word with a sign."""
    one = row.reads[0]
    # A sum is none where both words have the other sign than it, a gap where the first one alone has.
    against = QUOTIENT if row.deed in ("add", "addstop") else one
    return [
        Unlike(CARRY, one, QUOTIENT), Unlike(MORE, row.reads[1], against), And(CARRY, CARRY, MORE),
        Right(CARRY, CARRY, kind.width - 1),
    ]


def signed_sum_steps(kind, row):
    """A sum or a gap of words with a sign, that goes round or stops."""
    goal = row.goals[0]
    steps = [sum_row(row, QUOTIENT, None)] + beyond_steps(kind, row)
    if row.deed in ("add", "sub"):
        return steps + [Copy(goal, QUOTIENT), Mark(row.line, "round", CARRY)]
    # What goes beyond an end lies on the side of the first word.
    return steps + [Right(SIGN, row.reads[0], kind.width - 1)] + end_steps(kind) + [
        Pick(goal, CARRY, SIZE, QUOTIENT), Mark(row.line, "stop", CARRY),
    ]


def end_steps(kind):
    """Rows that put by SIZE how far from nought the farthest count lies on the side that SIGN tells."""
    return [Set(SIZE, kind.greatest()), Sum(SIZE, None, SIZE, SIGN)]


def left_steps(kind, row):
    """A shift left that goes round."""
    goal = row.goals[0]
    one = row.reads[0]
    k = row.numbers[0]
    if k == 0:
        return [Copy(goal, one)]
    if kind.word() == "plain":
        return [Right(CARRY, one, kind.width - k), Left(goal, one, k), Mark(row.line, "round", CARRY)]
    return [
        Left(QUOTIENT, one, k), Slide(CARRY, QUOTIENT, k), Unlike(CARRY, CARRY, one), Copy(goal, QUOTIENT),
        Mark(row.line, "round", CARRY),
    ]


def less_steps(kind, row):
    """Whether a word is less than another one."""
    goal = row.goals[0]
    one = row.reads[0]
    other = row.reads[1]
    if kind.word() == "plain":
        return [Under(goal, one, other)]
    # With their first bits turned about, words with a sign stand in the order of plain ones.
    return [Set(ONE, half(kind.width)), Unlike(MORE, one, ONE), Unlike(GAP, other, ONE), Under(goal, MORE, GAP)]


def over_steps(kind, row):
    """A quotient by a word that is not told ahead."""
    divisor = row.reads[1]
    steps = [Copy(QUOTIENT, row.reads[0]), Set(REST, 0)] + bit_steps(kind.width, divisor)
    return steps + [
        Set(ONE, 1), Under(CARRY, divisor, ONE), Copy(row.goals[0], QUOTIENT), Mark(row.line, "nothing", CARRY),
    ]


def rest_steps(divided, number):
    """Rows that put by REST what is left of a word, or the low half of a product, behind QUOTIENT times a number."""
    return [Set(DIVISOR, number), Low(HALF, QUOTIENT, DIVISOR), Gap(REST, None, divided, HALF)]


def part_steps(row, told):
    """A quotient, a rest, or both, by a told number."""
    one = row.reads[0]
    steps = form_steps(told, QUOTIENT, one) + rest_steps(one, row.numbers[0])
    if row.deed == "rest":
        return steps + [Copy(row.goals[0], REST)]
    return steps + [Copy(row.goals[0], QUOTIENT), Copy(row.goals[1], REST)]


def divided_name(kind, row):
    """The name of what a rounded row divides: a plain word as it is, of another one its size."""
    return row.reads[0] if kind.word() == "plain" else SIZE


def rounded_steps(kind, row, quotient, rest):
    """A quotient rounded by the way of a row, of the rows for the quotient and those for the rest behind it."""
    signed = kind.word() != "plain"
    steps = size_steps(kind.width, row.reads[0], SIGN, MASK, SIZE) if signed else []
    steps = steps + quotient
    further = adjust_steps(row.way, signed)
    if further != []:
        steps = steps + rest + further
    return steps + (sign_back_steps(row.goals[0], QUOTIENT) if signed else [Copy(row.goals[0], QUOTIENT)])


def div_steps(kind, row, paper):
    """A quotient by a told number, rounded."""
    if paper[0] == "signed":
        return signed_form_steps(kind.width, paper[1], row.goals[0], row.reads[0])
    one = divided_name(kind, row)
    return rounded_steps(kind, row, form_steps(paper[1], QUOTIENT, one), rest_steps(one, row.numbers[0]))


def fraction_steps(width, paper, one):
    """The quotient of a product by a fraction, by a row that tells it exactly [59]."""
    shift = paper[3] - width
    if paper[2] == 0:
        return scaled_steps(paper[1], shift, QUOTIENT, one)
    return more_steps(paper[1], shift, QUOTIENT, one)


def fraction_rest_steps(row, one):
    """The rest behind such a quotient: it is less than a word, so the low halves of both products tell it."""
    return [Set(FACTOR, row.numbers[0]), Low(GAP, one, FACTOR)] + rest_steps(GAP, row.numbers[1])


def product_bit_steps(width, row, one):
    """Quotient and rest of a product of two words, bit by bit."""
    return [
        Set(FACTOR, row.numbers[0]), High(REST, one, FACTOR), Low(QUOTIENT, one, FACTOR), Set(DIVISOR, row.numbers[1]),
    ] + bit_steps(width, DIVISOR)


def times_steps(kind, row, paper):
    """A product by a fraction, rounded."""
    if paper[0] == "copy":
        return [Copy(row.goals[0], row.reads[0])]
    one = divided_name(kind, row)
    if paper[0] == "bits":
        # The rest is there already.
        return rounded_steps(kind, row, product_bit_steps(kind.width, row, one), [])
    return rounded_steps(kind, row, fraction_steps(kind.width, paper, one), fraction_rest_steps(row, one))


def mul_product_steps(kind, row):
    """The product of two words with a point, without its sign: QUOTIENT, REST, and by BEYOND what no word can hold."""
    point = kind.point
    sizes = size_steps(kind.width, row.reads[0], SIGN, MASK, SIZE)
    sizes.extend(size_steps(kind.width, row.reads[1], OTHER_SIGN, OTHER_MASK, OTHER_SIZE))
    return sizes + [
        Unlike(SIGN, SIGN, OTHER_SIGN), Unlike(MASK, MASK, OTHER_MASK), High(HALF, SIZE, OTHER_SIZE),
        Low(REST, SIZE, OTHER_SIZE), Right(BEYOND, HALF, point), Left(QUOTIENT, HALF, kind.width - point),
        Right(HALF, REST, point), Or(QUOTIENT, QUOTIENT, HALF), Set(DIVISOR, (1 << point) - 1),
        And(REST, REST, DIVISOR), Set(DIVISOR, 1 << point),
    ]


def mul_steps(kind, row):
    """A product of two words with a point, rounded, that stops."""
    steps = mul_product_steps(kind, row) + [Set(CARRY, 0)] + adjust_steps(row.way, True) + end_steps(kind)
    return steps + [
        Or(BEYOND, BEYOND, CARRY), Under(CARRY, SIZE, QUOTIENT), Or(CARRY, CARRY, BEYOND),
        Pick(QUOTIENT, CARRY, SIZE, QUOTIENT),
    ] + sign_back_steps(row.goals[0], QUOTIENT) + [Mark(row.line, "stop", CARRY)]


def single_steps(kind, row):
    """The deeds for which the machine has a row of its own, with what else they need."""
    goal = row.goals[0]
    one = row.reads[0]
    other = row.reads[-1]
    if row.deed == "copy":
        return [Copy(goal, one)]
    if row.deed == "pick":
        return [Pick(goal, one, row.reads[1], other)]
    if row.deed == "low":
        return [High(CARRY, one, other), Low(goal, one, other), Mark(row.line, "round", CARRY)]
    if row.deed == "high":
        return [High(goal, one, other)]
    if row.deed == "same":
        return [Unlike(MORE, one, other), Set(ONE, 1), Under(goal, MORE, ONE)]
    if kind.word() == "plain":
        return [Right(goal, one, row.numbers[0])]
    return [Slide(goal, one, row.numbers[0])]


def deed_steps(program, row, paper):
    """Rows of the machine for a row of a program; paper is that of the row, or None where it has none [90]."""
    if row.deed == "set":
        return [Set(row.goals[0], row.numbers[0])]
    kind = program.kind_of(row.reads[-1])
    if row.deed in SUMS:
        return plain_sum_steps(kind, row) if kind.word() == "plain" else signed_sum_steps(kind, row)
    if row.deed == "left":
        return left_steps(kind, row)
    if row.deed == "less":
        return less_steps(kind, row)
    if row.deed == "over":
        return over_steps(kind, row)
    if row.deed in ("rest", "part"):
        return part_steps(row, paper[1])
    if row.deed == "div":
        return div_steps(kind, row, paper)
    if row.deed == "times":
        return times_steps(kind, row, paper)
    if row.deed == "mul":
        return mul_steps(kind, row)
    return single_steps(kind, row)
