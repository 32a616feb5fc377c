"""What the tests have in common: looking at refusals, at kinds of things, and at how many steps an answer takes."""

import copy
import sys
import unittest

from overwise.errors import NothingBy
from overwise.kinds import Plain, Pointed, Signed

MOST_STEPS = 2_000_000

# Things of every kind that are no whole numbers.
NO_NUMBERS = [
    True, False, None, "", "0", "4", "plain", [], [4], (), (4,), (1, 2), {}, {4: 4}, {"a": [1, {"b": ()}]},
    [[[[[["deep"]]]]]], Plain(4), Pointed(8, 3), NothingBy(),
]

# Things of every kind that are no widths.
NO_WIDTHS = NO_NUMBERS + [3, 33, 0, -4, -32, 10 ** 39, -(10 ** 39)]


def same(one, other):
    """Whether two things are equal and of the same kinds all through, dicts with their keys in the same order."""
    if one is other:
        return True
    if type(one) is not type(other):
        return False
    if isinstance(one, (list, tuple)):
        return len(one) == len(other) and all(same(a, b) for a, b in zip(one, other))
    if isinstance(one, dict):
        return same(list(one.items()), list(other.items()))
    return one == other


class TooManySteps(Exception):
    pass


def counted(call, *things, most=MOST_STEPS):
    """The answer of a call, where it comes within so many steps of the package's own rows."""
    left = [most]

    def trace(frame, event, argument):
        if "overwise" not in frame.f_code.co_filename:
            return None
        left[0] -= 1
        if left[0] < 0:
            raise TooManySteps(call)
        return trace

    before = sys.gettrace()
    sys.settrace(trace)
    try:
        return call(*things)
    finally:
        sys.settrace(before)


def bare(thing):
    """A thing with each object of the package written as its class and its fields, so that it can be held against another."""
    if isinstance(thing, (list, tuple)):
        return type(thing)(bare(one) for one in thing)
    if isinstance(thing, dict):
        return {bare(key): bare(value) for key, value in thing.items()}
    if type(thing).__module__.startswith("overwise"):
        return (type(thing).__name__, bare(vars(thing)))
    return thing


class Case(unittest.TestCase):
    def same(self, found, wanted, *told):
        """Found is what is wanted, and of the same kinds: True is no 1, a list is no tuple."""
        self.assertTrue(same(found, wanted), f"found {found!r}, wanted {wanted!r}, of {told!r}")

    def refused(self, kind, fields, call, *things):
        """The call is refused with this very class, which has just these fields, and changes nothing handed in."""
        before = bare(copy.deepcopy(list(things)))
        try:
            answer = call(*things)
        except kind as error:
            self.assertIs(type(error), kind)
            self.same(vars(error), fields, things)
        else:
            self.fail(f"{things!r} was not refused, but answered with {answer!r}")
        self.same(bare(list(things)), before)

    def fresh(self, call, *things):
        """A list or dict that is told is the asker's own: spoiling it leaves the next answer as it was."""
        first = call(*things)
        second = call(*things)
        self.same(bare(first), bare(second), things)
        kept = bare(copy.deepcopy(first))
        inner = self.boxes(second)
        self.assertEqual(len(set(map(id, inner))), len(inner))
        for box in inner:
            self.assertFalse(any(box is other for other in self.boxes(first)))
        for box in inner:
            box.clear()
        self.same(bare(first), kept, things)
        self.same(bare(call(*things)), kept, things)

    def boxes(self, thing):
        """All lists and dicts in an answer."""
        found = [thing] if isinstance(thing, (list, dict)) else []
        if isinstance(thing, (list, tuple)):
            for one in thing:
                found = found + self.boxes(one)
        if isinstance(thing, dict):
            for one in thing.values():
                found = found + self.boxes(one)
        return found


def prices_of(**other):
    """A table of prices, 1 for each row's word but those that are told otherwise."""
    words = "set copy sum gap low high left right slide and or unlike under pick mark turns".split()
    table = {word: 1 for word in words}
    table.update({word.rstrip("_"): price for word, price in other.items()})
    return table


# Tables that put the forms in very different orders, equal prices among them.
TABLES = [
    prices_of(),
    {word: 0 for word in prices_of()},
    {word: 1000 for word in prices_of()},
    prices_of(set=2, low=3, high=7, right=1, sum=1, gap=1),
    prices_of(set=0, high=1000, low=1000),
    prices_of(right=1000, slide=0),
    prices_of(right=0, slide=1000, gap=0, sum=0, unlike=0),
    prices_of(gap=1000, set=1, high=0),
    prices_of(sum=1000),
    prices_of(set=1000, high=1000, right=0, and_=1000),
    prices_of(unlike=1000),
    prices_of(low=0, sum=0, high=1, gap=3, right=5),
]

# Dicts and other things that are no tables of prices.
NO_TABLES = [thing for thing in NO_NUMBERS] + [
    0, 1, list(prices_of()), list(prices_of().items()), tuple(prices_of().items()),
    {word: 1 for word in prices_of() if word != "set"}, {word: 1 for word in prices_of() if word != "turns"},
    {word: 1 for word in prices_of() if word != "and"}, prices_of(set=-1), prices_of(turns=1001), prices_of(high=True),
    prices_of(low=False), prices_of(mark=None), prices_of(pick="1"), prices_of(copy=[1]), prices_of(under=10 ** 39),
    prices_of(or_=(1,)), {word.upper(): 1 for word in prices_of()},
]


def walked(width, d, reckoning):
    """The least word that a reckoning brings to another number than its quotient, by a walk of all words, or None."""
    early, factor, addend, total = reckoning
    for x in range(2 ** width):
        if (factor * (x // 2 ** early) + addend) // 2 ** total != x // d:
            return x
    return None


def by_blocks(width, d, reckoning):
    """The same without a walk: the first block of words with one quotient in which a word is wrong, by two inequalities."""
    early, factor, addend, total = reckoning
    power, last, part = 2 ** total, 2 ** width - 1, d // 2 ** early
    step = factor * part - power
    over = power - addend - factor * (part - 1)
    blocks = []
    if step < 0:
        blocks.append(addend // -step + 1)
    if over <= 0:
        blocks.append(0)
    elif step > 0:
        blocks.append(-(-over // step))
    wrong = []
    for q in blocks:
        if factor * q * part + addend < q * power:
            wrong.append(q * d)
        elif factor > 0:
            wrong.append(max(q * d, -(-((q + 1) * power - addend) // factor) * 2 ** early))
        else:
            wrong.append(q * d)
    # The last block may be cut off ahead of the word that is wrong in it.
    wrong = [x for x in wrong if x <= last]
    return min(wrong) if wrong else None


def no_divisors(width):
    """Things of every kind that are no told divisors of a width."""
    return NO_NUMBERS + [0, -1, 2 ** width, 2 ** width + 1, 10 ** 39, -(10 ** 39)]


def great_divisors(width):
    """Told divisors of a great width: its ends, powers of two and their neighbours, and some between."""
    size = 2 ** width
    found = {1, 2, 3, 5, 6, 7, 9, 10, 11, 12, 14, 21, 25, 28, 60, 100, 125, 127, 641, 1000, 6700417, 10 ** 6, 10 ** 9}
    for k in range(width):
        found |= {2 ** k - 1, 2 ** k, 2 ** k + 1}
    found |= {size - 1, size - 2, size - 3, size // 2 - 1, size // 2 + 1, size // 2 + 2, size // 3, size // 3 + 1, size // 7}
    return sorted(d for d in found if 1 <= d < size)


def words_of(width, number):
    """The long of a number, by Python's own figures."""
    words = []
    while number:
        number, word = divmod(number, 2 ** width)
        words.append(word)
    return words


def no_longs(width):
    """Things of every kind that are no longs of a width."""
    size = 2 ** width
    return [thing for thing in NO_NUMBERS if thing != [] and thing != [4]] + [
        0, 1, -1, 10 ** 39, [0], [1, 0], [0, 0], [1, 2, 0], [size], [1, size], [-1], [-1, 1], [1, -1], [True], [1, True],
        [False, 1], [1, False], [None], [1, None], ["1"], ["1", 1], [[1]], [1, [1]], [(1,)], [1, {}], [Plain(4)], (1, 2),
        (1,), {0: 1}, "12", [1, 2, [], 1], [10 ** 39, 1],
    ]


WAYS = ("down", "up", "cut", "near")
TWO_ALIKE = ("add", "sub", "addstop", "substop", "less", "same")
ALL_DEEDS = TWO_ALIKE + ("set", "copy", "pick", "low", "high", "left", "right", "div", "rest", "over", "times", "mul", "part")


def edge_words(width):
    """Words at and about the ends of each kind, and some between."""
    half = 2 ** (width - 1)
    words = {0, 1, 2, 3, half - 2, half - 1, half, half + 1, half + 2, 2 * half - 3, 2 * half - 2, 2 * half - 1, half // 3, 5 * half // 3}
    return sorted(word % (2 * half) for word in words)


def drawn_number(source, most):
    """A number from 1 on, often small, about a power of two, or about the end."""
    near = 2 ** source.randrange(most.bit_length())
    found = source.choice([1, 2, 3, 5, 7, 10, near, near - 1, near + 1, most, most - 1, source.randint(1, most)])
    return min(max(1, found), most)


class Drawing:
    """A drawn program: words of each kind by these names, rows and loops of any deeds."""

    def __init__(self, source, width, deeds=ALL_DEEDS):
        self.source = source
        self.width = width
        self.deeds = deeds
        point = source.randrange(1, width)
        self.kinds = {
            "a": "plain", "b": "plain", "c": "plain", "s": "signed", "t": "signed", "p": f"point {point}", "q": f"point {point}",
        }

    def name(self, kind):
        return self.source.choice([name for name in self.kinds if self.kinds[name] == kind])

    def row(self):
        source, width = self.source, self.width
        deed, kind = source.choice(self.deeds), source.choice(sorted(set(self.kinds.values())))
        if deed in ("low", "high", "over", "rest", "part"):
            kind = "plain"
        if deed == "mul":
            kind = self.kinds["p"]
        one, other, goal = self.name(kind), self.name(kind), self.name("plain" if deed in ("less", "same") else kind)
        number = drawn_number(source, 2 ** width - 1 if kind == "plain" else 2 ** (width - 1))
        shift, way = source.randrange(width), source.choice(WAYS)
        if deed == "part":
            goals = source.sample(["a", "b", "c"], 2)
            return f"{goals[0]} {goals[1]} = part {one} {number}"
        return f"{goal} = {deed} " + {
            "set": lambda: f"{kind} {self.figures(kind)}", "copy": lambda: one, "pick": lambda: f"{self.name('plain')} {one} {other}",
            "left": lambda: f"{one} {shift}", "right": lambda: f"{one} {shift}", "div": lambda: f"{one} {number} {way}",
            "rest": lambda: f"{one} {number}", "times": lambda: f"{one} {source.randint(0, number)}/{number} {way}",
            "mul": lambda: f"{one} {other} {way}",
        }.get(deed, lambda: f"{one} {other}")()

    def figures(self, kind):
        words = kind.split(" ")
        made = {"plain": Plain, "signed": Signed}.get(words[0])
        made = made(self.width) if made else Pointed(self.width, int(words[1]))
        return made.shown(self.word())

    def word(self):
        return self.source.choice(edge_words(self.width) + [self.source.randrange(2 ** self.width) for some in range(6)])

    def rows(self, many, deep):
        lines = []
        for some in range(self.source.randint(1, many)):
            if deep < 3 and self.source.random() < 0.15:
                lines += [f"repeat {self.source.randint(1, 4)}"] + self.rows(3, deep + 1) + ["end"]
            else:
                lines.append(self.row())
        return lines

    def text(self, many):
        ins = [f"in {name} {kind}" for name, kind in self.kinds.items()]
        rows = self.rows(many, 0)
        while len(rows) > 45:
            rows = self.rows(many, 0)
        return "\n".join([f"width {self.width}"] + ins + rows + [f"out {name}" for name in self.kinds])

    def inputs(self):
        return {name: self.word() for name in self.kinds}
