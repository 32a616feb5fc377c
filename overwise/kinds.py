"""Kinds: what the bits of a word stand for."""

from overwise.errors import NoKind, NoText, NoWord
from overwise.ratios import by_twos
from overwise.words import is_between, is_word, need_width

# No text that a kind shows is longer: a sign, ten figures, the point, and 31 figures behind it.
LONGEST_SHOWN = 43


class Kind:
    """What the three kinds have in common; it is not made by itself [10]."""

    def __init__(self, width, point):
        self.width = width
        self.point = point

    def count_of(self, bits):
        """The count for which these bits stand [11]."""
        if not is_word(self.width, bits):
            raise NoWord(bits)
        return bits if bits <= self.greatest() else bits - (1 << self.width)

    def bits_of(self, count):
        """The bits that stand for this count [11]."""
        if not is_between(count, self.least(), self.greatest()):
            raise NoWord(count)
        return count % (1 << self.width)

    def value_of(self, bits):
        """The value of these bits, a fraction [11]."""
        return by_twos(self.count_of(bits), self.point)

    def go_round(self, number):
        """The bits that are left of a number by B, and whether it is no count [12]."""
        return (number % (1 << self.width), not self.least() <= number <= self.greatest())

    def stop_at(self, number):
        """The bits of the count nearest to a number, and whether it is no count [12]."""
        nearest = max(self.least(), min(self.greatest(), number))
        return (self.bits_of(nearest), nearest != number)

    def shown(self, bits):
        """The value of these bits in figures, exactly [13]."""
        count = self.count_of(bits)
        sign = "-" if count < 0 else ""
        whole = str(abs(count) >> self.point)
        behind = figures_behind(abs(count) % (1 << self.point), self.point)
        return sign + whole + ("." + behind if behind else "")

    def read(self, text):
        """The bits whose value is shown as this very text [13]."""
        count = count_in(text, self.point)
        if not is_between(count, self.least(), self.greatest()):
            raise NoText(text)
        bits = self.bits_of(count)
        # A text may tell a value in another way than it is shown, or one that lies between two counts.
        if self.shown(bits) != text:
            raise NoText(text)
        return bits


class Plain(Kind):
    """Words whose count is their bits."""

    def __init__(self, width):
        need_width(width)
        Kind.__init__(self, width, 0)

    def word(self):
        """The kind's word [11]."""
        return "plain"

    def least(self):
        """The least count [11]."""
        return 0

    def greatest(self):
        """The greatest count [11]."""
        return (1 << self.width) - 1


class Signed(Kind):
    """Words whose upper half stands for counts below nought."""

    def __init__(self, width):
        need_width(width)
        Kind.__init__(self, width, 0)

    def word(self):
        """The kind's word [11]."""
        return "signed"

    def least(self):
        """The least count [11]."""
        return -half(self.width)

    def greatest(self):
        """The greatest count [11]."""
        return half(self.width) - 1


class Pointed(Kind):
    """Words as signed ones, with bits behind a point."""

    def __init__(self, width, point):
        need_width(width)
        if not is_between(point, 1, width - 1):
            raise NoKind(point)
        Kind.__init__(self, width, point)

    def word(self):
        """The kind's word [11]."""
        return "point"

    def least(self):
        """The least count [11]."""
        return -half(self.width)

    def greatest(self):
        """The greatest count [11]."""
        return half(self.width) - 1


def same_kind(one, other):
    """Whether two kinds are the same [10]."""
    return one.word() == other.word() and one.width == other.width and one.point == other.point


def half(width):
    """Half of how many words there are, H of the document [2]."""
    return 1 << (width - 1)


def figures_behind(rest, point):
    """The figures that tell rest / 2 ** point exactly, none where rest is 0; rest is below 2 ** point."""
    figures = []
    while rest != 0:
        rest = rest * 10
        figures.append(str(rest >> point))
        rest = rest % (1 << point)
    return "".join(figures)


def count_in(text, point):
    """The count, cut where it is not whole, that figures with or without a sign and a point tell, or None."""
    if not isinstance(text, str) or len(text) > LONGEST_SHOWN:
        return None
    negative = text.startswith("-")
    parts = (text[1:] if negative else text).partition(".")
    number = number_in(parts[0] + parts[2])
    if number is None:
        return None
    worth = 1
    for figure in parts[2]:
        worth = worth * 10
    count = (number << point) // worth
    return -count if negative else count


def number_in(figures):
    """The number that figures 0 to 9 tell, or None where another sign is among them."""
    number = 0
    for figure in figures:
        worth = "0123456789".find(figure)
        if worth < 0:
            return None
        number = number * 10 + worth
    return number
