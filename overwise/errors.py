"""The refusals: one class each, straight under WiseError [6].

A refusal keeps just its fields: what it was made of is all that it tells.
"""


class WiseError(ValueError):
    """Any refusal of this package."""


class NoWidth(WiseError):
    """What was handed in for a width is none [2]."""

    def __init__(self, found):
        self.found = found


class NoWord(WiseError):
    """Bits, a count or a word that is none of the width or the kind [11]."""

    def __init__(self, found):
        self.found = found


class NoKind(WiseError):
    """A point that no word of the width can have [10]."""

    def __init__(self, found):
        self.found = found


class NoText(WiseError):
    """What is not a text that would be shown or written so [13], [14]."""

    def __init__(self, found):
        self.found = found


class NoWay(WiseError):
    """What is not the word of a way of rounding [23]."""

    def __init__(self, found):
        self.found = found


class NoFraction(WiseError):
    """Two things that make no fraction [20]."""

    def __init__(self, found):
        self.found = found


class NoDivisor(WiseError):
    """What is no told divisor [30], [40]."""

    def __init__(self, found):
        self.found = found


class NoForm(WiseError):
    """Numbers that make no form, or a form or reckoning that is none for the divisor [31], [34]."""

    def __init__(self, found):
        self.found = found


class NoLine(WiseError):
    """Four things that tell no line [50]."""

    def __init__(self, found):
        self.found = found


class NoLong(WiseError):
    """What is no number of several words [60]."""

    def __init__(self, found):
        self.found = found


class NoPrices(WiseError):
    """What is no table of prices [27]."""

    def __init__(self, found):
        self.found = found


class NoDesk(WiseError):
    """A line that the desk can't answer [110]."""

    def __init__(self, found):
        self.found = found


class NoProgram(WiseError):
    """A line that no program has there [73]."""

    def __init__(self, line):
        self.line = line


class TooMuch(WiseError):
    """A line by which a program, or -1 where a run, goes beyond its bounds [73], [83]."""

    def __init__(self, line):
        self.line = line


class Unknown(WiseError):
    """A name that nothing let in or put ahead of the line [74]."""

    def __init__(self, line, name):
        self.line = line
        self.name = name


class WrongKind(WiseError):
    """A name whose kind doesn't go with the line [74]."""

    def __init__(self, line, name):
        self.line = line
        self.name = name


class Twice(WiseError):
    """A name that comes in or goes out a second time [74]."""

    def __init__(self, line, name):
        self.line = line
        self.name = name


class NoInput(WiseError):
    """An input that lacks its bits [76]."""

    def __init__(self, name):
        self.name = name


class NoRegister(WiseError):
    """A key or a value that the machine can't hold [84]."""

    def __init__(self, name):
        self.name = name


class NoRow(WiseError):
    """The place of a thing that is no good row [83]."""

    def __init__(self, place):
        self.place = place


class Lesser(WiseError):
    """A gap from a number to a greater one [61]."""


class NothingBy(WiseError):
    """A division by nought [21], [64]."""
