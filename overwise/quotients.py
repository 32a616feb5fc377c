"""Rows of the machine that divide without a divider: by forms, by rows of a fraction, and bit by bit."""

from overwise.steps import And, Copy, Gap, High, Low, Or, Pick, Right, Set, Slide, Sum, Turns, Under, Unlike

# Names of the maker's own: each has a figure in it, so none of them is a name of a program [70].
# This one is never put, so it holds 0 throughout [80].
NOUGHT = "z0"
QUOTIENT = "q0"
REST = "r0"
DIVISOR = "d0"
SIGN = "s0"
MASK = "m0"
SIZE = "a0"
CARRY = "c0"
FACTOR = "f0"
HALF = "h0"
MORE = "p0"
GAP = "g0"
ONE = "o0"


def further_right(goal, k):
    """A shift right of a word where it stands, no row where there is nothing to shift."""
    return [] if k == 0 else [Right(goal, goal, k)]


def scaled_steps(factor, shift, goal, one):
    """Rows for the quotient of factor * x by 2 ** (w + shift)."""
    return [Set(FACTOR, factor), High(goal, FACTOR, one)] + further_right(goal, shift)


def more_steps(factor, shift, goal, one):
    """Rows for the quotient of factor * x + factor by 2 ** (w + shift)."""
    return [
        Set(FACTOR, factor), Low(HALF, FACTOR, one), Sum(HALF, CARRY, HALF, FACTOR), High(goal, FACTOR, one),
        Sum(goal, None, goal, CARRY),
    ] + further_right(goal, shift)


def wide_steps(factor, shift, goal, one):
    """Rows for the quotient of (B + factor) * x by 2 ** (w + shift)."""
    # The sum of x and the high half could go round, so half of their gap is put to the lesser one.
    return [
        Set(FACTOR, factor), High(HALF, FACTOR, one), Gap(GAP, None, one, HALF), Right(GAP, GAP, 1),
        Sum(goal, None, GAP, HALF),
    ] + further_right(goal, shift - 1)


def form_steps(told, goal, one):
    """Rows for the quotient to which a form brings a word, by what the form tells [31]."""
    shift = told[-1]
    if told[0] == "shifted":
        return [Copy(goal, one) if shift == 0 else Right(goal, one, shift)]
    if told[0] == "early":
        return [Right(HALF, one, told[1])] + scaled_steps(told[2], shift, goal, HALF)
    if told[0] == "more":
        return more_steps(told[1], shift, goal, one)
    if told[0] == "wide":
        return wide_steps(told[1], shift, goal, one)
    return scaled_steps(told[1], shift, goal, one)


def size_steps(width, one, sign, mask, goal):
    """Rows for a count without its sign, for the sign, 1 below nought, and for as many ones as a word has there."""
    return [
        Right(sign, one, width - 1), Gap(mask, None, NOUGHT, sign),
        Unlike(goal, one, mask), Gap(goal, None, goal, mask),
    ]


def sign_back_steps(goal, one):
    """Rows that put a size with the sign of MASK by the goal."""
    return [Unlike(one, one, MASK), Gap(goal, None, one, MASK)]


def cutting_steps(width, factor, shift, goal, one):
    """Rows for what a cutting form brings a count to [41]."""
    # The high half is one of plain words: below nought it is too great by the factor.
    steps = [
        Set(FACTOR, factor), High(HALF, FACTOR, one), Right(SIGN, one, width - 1), Gap(MASK, None, NOUGHT, SIGN),
        And(MASK, MASK, FACTOR), Gap(HALF, None, HALF, MASK),
    ]
    if shift != 0:
        steps.append(Slide(HALF, HALF, shift))
    return steps + [Sum(goal, None, HALF, SIGN)]


def signed_form_steps(width, told, goal, one):
    """Rows for what a signed form brings a count to, by what the form tells [41]."""
    if told[0] == "cutting":
        return cutting_steps(width, told[1], told[2], goal, one)
    steps = size_steps(width, one, SIGN, MASK, SIZE)
    return steps + form_steps(told[1], QUOTIENT, SIZE) + sign_back_steps(goal, QUOTIENT)


def bit_steps(width, divisor):
    """Rows that divide two words, the high one by REST and the low one by QUOTIENT, bit by bit.

    The high one is less than the divisor, or 0. The quotient comes by QUOTIENT, the rest by REST; where the divisor is
    0 each bit of the quotient is 1.
    """
    turn = [
        Sum(REST, CARRY, REST, REST), Sum(QUOTIENT, MORE, QUOTIENT, QUOTIENT), Or(REST, REST, MORE),
        Gap(GAP, MORE, REST, divisor),
        # The divisor goes in where the doubled rest went beyond a word, or where nothing was borrowed.
        Under(MORE, CARRY, MORE), Pick(REST, MORE, REST, GAP), Or(QUOTIENT, QUOTIENT, MORE),
    ]
    # Each turn noted where the divisor doesn't go in: turned about that is the quotient.
    return [Turns(width, turn), Set(ONE, (1 << width) - 1), Unlike(QUOTIENT, QUOTIENT, ONE)]


def adjust_steps(way, signed):
    """Rows that bring QUOTIENT one farther from nought where the way asks for it, with its carry by CARRY.

    REST and DIVISOR hold the rest and the divisor, both without a sign, SIGN the sign of a signed word.
    """
    if way == "cut" or (way == "down" and not signed):
        return []
    if way == "near":
        # The rest is beyond the half where less than it is lacking; an odd quotient is left at the half, too.
        steps = [
            Set(ONE, 1), And(MORE, QUOTIENT, ONE), Sum(MORE, None, MORE, REST), Gap(GAP, None, DIVISOR, REST),
            Under(MORE, GAP, MORE),
        ]
    else:
        steps = [Under(MORE, NOUGHT, REST)]
        if way == "down":
            steps.append(And(MORE, MORE, SIGN))
        elif signed:
            steps.append(Under(MORE, SIGN, MORE))
    return steps + [Sum(QUOTIENT, CARRY, QUOTIENT, MORE)]
