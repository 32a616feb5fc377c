"""Ways of rounding: how a number, whole or not, becomes a whole one."""

from overwise.errors import NoWay

WAY_WORDS = ("down", "up", "cut", "near")


class Way:
    """What the four ways have in common; it is not made by itself [23]."""

    def most_miss(self):
        """The most by which a rounding may miss, a fraction [24]."""
        return (1, 1)

    def adjust(self, quotient, rest, divisor, negative):
        """Whether what was divided without signs goes one farther from nought by this way [25]."""
        top = quotient * divisor + rest
        return abs(self.rounded(-top if negative else top, divisor)) != quotient


class Down(Way):
    """To the greatest whole number that is not above."""

    def word(self):
        """The way's word [23]."""
        return "down"

    def rounded(self, top, bottom):
        """The whole number for top / bottom [23]."""
        return top // bottom


class Up(Way):
    """To the least whole number that is not below."""

    def word(self):
        """The way's word [23]."""
        return "up"

    def rounded(self, top, bottom):
        """The whole number for top / bottom [23]."""
        return -(-top // bottom)


class Cut(Way):
    """Towards nought."""

    def word(self):
        """The way's word [23]."""
        return "cut"

    def rounded(self, top, bottom):
        """The whole number for top / bottom [23]."""
        return top // bottom if top >= 0 else -(-top // bottom)


class Near(Way):
    """To the nearest whole number, of two to the even one."""

    def word(self):
        """The way's word [23]."""
        return "near"

    def rounded(self, top, bottom):
        """The whole number for top / bottom [23]."""
        quotient = top // bottom
        twice = 2 * (top - quotient * bottom)
        if twice > bottom or (twice == bottom and quotient % 2 == 1):
            return quotient + 1
        return quotient

    def most_miss(self):
        """The most by which a rounding may miss, a fraction [24]."""
        return (1, 2)


def all_ways():
    """The words of the four ways, in their order [23]."""
    return list(WAY_WORDS)


def way_of(word):
    """A new way with this word [23]."""
    if word == "down":
        return Down()
    if word == "up":
        return Up()
    if word == "cut":
        return Cut()
    if word == "near":
        return Near()
    raise NoWay(word)


def into(kind, way, top, bottom, stops):
    """The bits of a kind for top / bottom, and the mark of what the word could not hold [26]."""
    number = way.rounded(top << kind.point, bottom)
    brought = kind.stop_at(number) if stops else kind.go_round(number)
    if not brought[1]:
        return (brought[0], "")
    return (brought[0], "stop" if stops else "round")
