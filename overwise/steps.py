"""The rows of the machine: sixteen classes, what each tells, whether its fields are good, and what it does."""

from overwise.words import (
    gap_of, high_product, is_between, is_word, left, low_product, right, slide, sum_of,
)

LETTERS = "abcdefghijklmnopqrstuvwxyz"
LETTERS_AND_FIGURES = "abcdefghijklmnopqrstuvwxyz0123456789"
MARKS = ("round", "stop", "nothing")


def is_register(thing):
    """Whether a thing, whatever it is, is the name of a place for a word [80]."""
    if not isinstance(thing, str) or not 1 <= len(thing) <= 8 or thing[0] not in LETTERS:
        return False
    return all([sign in LETTERS_AND_FIGURES for sign in thing])


def are_registers(things):
    """Whether each of some things is such a name."""
    return all([is_register(thing) for thing in things])


class Step:
    """What the sixteen rows have in common; it is not made by itself [81].

    Beside word and told, a row has good_at(width), whether its own fields are good [83], and act(width, words, marks),
    which does it on a dict of words by their names and puts marks behind a list [81], [82].
    """

    def good_at(self, width):
        """Whether the row's own fields are good; of what is none of the sixteen they are not [83]."""
        return False


class Set(Step):
    """A word that is told."""

    def __init__(self, goal, bits):
        self.goal = goal
        self.bits = bits

    def word(self):
        """The row's word [81]."""
        return "set"

    def told(self):
        """The row's word and fields [81]."""
        return ("set", self.goal, self.bits)

    def good_at(self, width):
        """Whether the row's fields are good [83]."""
        return is_register(self.goal) and is_word(width, self.bits)

    def act(self, width, words, marks):
        """Do the row [81]."""
        words[self.goal] = self.bits


class Copy(Step):
    """A word as it is held elsewhere."""

    def __init__(self, goal, one):
        self.goal = goal
        self.one = one

    def word(self):
        """The row's word [81]."""
        return "copy"

    def told(self):
        """The row's word and fields [81]."""
        return ("copy", self.goal, self.one)

    def good_at(self, width):
        """Whether the row's fields are good [83]."""
        return are_registers([self.goal, self.one])

    def act(self, width, words, marks):
        """Do the row [81]."""
        words[self.goal] = words.get(self.one, 0)


class Carrying(Step):
    """What sums and gaps have in common: a carry that may be kept."""

    def __init__(self, goal, carry, one, other):
        self.goal = goal
        self.carry = carry
        self.one = one
        self.other = other

    def told(self):
        """The row's word and fields [81]."""
        return (self.word(), self.goal, self.carry, self.one, self.other)

    def good_at(self, width):
        """Whether the row's fields are good [83]."""
        return are_registers([self.goal, self.one, self.other]) and (self.carry is None or is_register(self.carry))

    def act(self, width, words, marks):
        """Do the row [81]; where goal and carry are one, it holds the carry [82]."""
        pair = self.reckoned(width, words.get(self.one, 0), words.get(self.other, 0))
        words[self.goal] = pair[0]
        if self.carry is not None:
            words[self.carry] = pair[1]


class Sum(Carrying):
    """A sum with its carry."""

    def word(self):
        """The row's word [81]."""
        return "sum"

    def reckoned(self, width, a, b):
        """The word and the carry."""
        return sum_of(width, a, b)


class Gap(Carrying):
    """A difference with its borrow."""

    def word(self):
        """The row's word [81]."""
        return "gap"

    def reckoned(self, width, a, b):
        """The word and the borrow."""
        return gap_of(width, a, b)


class Joining(Step):
    """What the rows have in common that make one word of two."""

    def __init__(self, goal, one, other):
        self.goal = goal
        self.one = one
        self.other = other

    def told(self):
        """The row's word and fields [81]."""
        return (self.word(), self.goal, self.one, self.other)

    def good_at(self, width):
        """Whether the row's fields are good [83]."""
        return are_registers([self.goal, self.one, self.other])

    def act(self, width, words, marks):
        """Do the row [81]."""
        words[self.goal] = self.reckoned(width, words.get(self.one, 0), words.get(self.other, 0))


class Low(Joining):
    """The lower half of a product."""

    def word(self):
        """The row's word [81]."""
        return "low"

    def reckoned(self, width, a, b):
        """The word for the goal."""
        return low_product(width, a, b)


class High(Joining):
    """The upper half of a product."""

    def word(self):
        """The row's word [81]."""
        return "high"

    def reckoned(self, width, a, b):
        """The word for the goal."""
        return high_product(width, a, b)


class Moving(Step):
    """What the three shifts have in common."""

    def __init__(self, goal, one, k):
        self.goal = goal
        self.one = one
        self.k = k

    def told(self):
        """The row's word and fields [81]."""
        return (self.word(), self.goal, self.one, self.k)

    def good_at(self, width):
        """Whether the row's fields are good [83]."""
        return are_registers([self.goal, self.one]) and is_between(self.k, 0, width - 1)

    def act(self, width, words, marks):
        """Do the row [81]."""
        words[self.goal] = self.moved(width, words.get(self.one, 0))


class Left(Moving):
    """A shift left."""

    def word(self):
        """The row's word [81]."""
        return "left"

    def moved(self, width, a):
        """The word for the goal."""
        return left(width, a, self.k)


class Right(Moving):
    """A shift right."""

    def word(self):
        """The row's word [81]."""
        return "right"

    def moved(self, width, a):
        """The word for the goal."""
        return right(width, a, self.k)


class Slide(Moving):
    """A shift right of a signed word."""

    def word(self):
        """The row's word [81]."""
        return "slide"

    def moved(self, width, a):
        """The word for the goal."""
        return slide(width, a, self.k)


class And(Joining):
    """The bits that both words have."""

    def word(self):
        """The row's word [81]."""
        return "and"

    def reckoned(self, width, a, b):
        """The word for the goal."""
        return a & b


class Or(Joining):
    """The bits that one of two words has at least."""

    def word(self):
        """The row's word [81]."""
        return "or"

    def reckoned(self, width, a, b):
        """The word for the goal."""
        return a | b


class Unlike(Joining):
    """The bits in which two words differ."""

    def word(self):
        """The row's word [81]."""
        return "unlike"

    def reckoned(self, width, a, b):
        """The word for the goal."""
        return a ^ b


class Under(Joining):
    """Whether a word is less than another one."""

    def word(self):
        """The row's word [81]."""
        return "under"

    def reckoned(self, width, a, b):
        """The word for the goal."""
        return 1 if a < b else 0


class Pick(Step):
    """One of two words, by a third one."""

    def __init__(self, goal, by, one, other):
        self.goal = goal
        self.by = by
        self.one = one
        self.other = other

    def word(self):
        """The row's word [81]."""
        return "pick"

    def told(self):
        """The row's word and fields [81]."""
        return ("pick", self.goal, self.by, self.one, self.other)

    def good_at(self, width):
        """Whether the row's fields are good [83]."""
        return are_registers([self.goal, self.by, self.one, self.other])

    def act(self, width, words, marks):
        """Do the row [81]."""
        words[self.goal] = words.get(self.one if words.get(self.by, 0) != 0 else self.other, 0)


class Mark(Step):
    """A mark, where a word is not 0."""

    def __init__(self, line, mark, by):
        self.line = line
        self.mark = mark
        self.by = by

    def word(self):
        """The row's word [81]."""
        return "mark"

    def told(self):
        """The row's word and fields [81]."""
        return ("mark", self.line, self.mark, self.by)

    def good_at(self, width):
        """Whether the row's fields are good [83]."""
        return is_between(self.line, 0, 9999) and self.mark in MARKS and is_register(self.by)

    def act(self, width, words, marks):
        """Do the row [81]."""
        if words.get(self.by, 0) != 0:
            marks.append((self.line, self.mark))


class Turns(Step):
    """Rows that are done several times over."""

    def __init__(self, times, steps):
        self.times = times
        self.steps = list(steps) if isinstance(steps, list) else steps

    def word(self):
        """The row's word [81]."""
        return "turns"

    def told(self):
        """The row's word and times, and a list of what its rows tell [81]."""
        return ("turns", self.times, [step.told() for step in self.steps])

    def good_at(self, width):
        """Whether the row's own fields are good, its things not looked at [83]."""
        return is_between(self.times, 1, 64) and isinstance(self.steps, list) and self.steps != []

    def act(self, width, words, marks):
        """Do the row [81]."""
        for turn in range(self.times):
            for step in self.steps:
                step.act(width, words, marks)
