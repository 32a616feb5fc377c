"""Lines of programs: rows and loops, and the first walk, which looks at each line and at where it stands."""

from overwise.errors import NoProgram, NoText, TooMuch
from overwise.figures import whole_in
from overwise.kinds import Plain, Pointed, Signed
from overwise.ways import all_ways

LETTERS = "abcdefghijklmnopqrstuvwxyz"
RESERVED = (
    "width", "in", "out", "plain", "signed", "point", "set", "copy", "add", "sub", "addstop", "substop", "low", "high",
    "left", "right", "less", "same", "pick", "div", "rest", "over", "times", "mul", "part", "repeat", "end",
    "down", "up", "cut", "near",
)
# What stands behind each deed but set, a part for each word.
SHAPES = {
    "copy": ("name",), "pick": ("name", "name", "name"), "add": ("name", "name"), "sub": ("name", "name"),
    "addstop": ("name", "name"), "substop": ("name", "name"), "low": ("name", "name"), "high": ("name", "name"),
    "less": ("name", "name"), "same": ("name", "name"), "over": ("name", "name"), "left": ("name", "shift"),
    "right": ("name", "shift"), "rest": ("name", "divisor"), "div": ("name", "divisor", "way"),
    "times": ("name", "fraction", "way"), "mul": ("name", "name", "way"), "part": ("name", "divisor"),
}
MOST_LINES = 60
MOST_NAMES = 30
MOST_LOOPS = 3


class Row:
    """A line that puts a word by a name, or two [75]."""

    def __init__(self, line, deed, goals):
        self.line = line
        self.deed = deed
        self.goals = goals
        self.reads = []
        self.numbers = []
        self.way = ""


class Repeat:
    """A loop [75]."""

    def __init__(self, line, times):
        self.line = line
        self.times = times
        self.rows = []


def rows_of(rows):
    """All rows one behind the other, those within loops once."""
    found = []
    for row in rows:
        if isinstance(row, Repeat):
            found.extend(rows_of(row.rows))
        else:
            found.append(row)
    return found


def rows_done(rows):
    """All rows in the order in which a run does them, those within loops as often as they are done [76]."""
    found = []
    for row in rows:
        if isinstance(row, Repeat):
            inner = rows_done(row.rows)
            for turn in range(row.times):
                found.extend(inner)
        else:
            found.append(row)
    return found


class Draft:
    """What the lines ahead have told in the first walk [73]."""

    def __init__(self, width):
        self.width = width
        self.inputs = []
        self.rows = []
        self.outs = []
        # All rows one behind the other, whatever loop they stand in, each with the kind that it tells, or None.
        self.row_pairs = []
        self.loops = []
        self.met = {}

    def takes(self, line, words):
        """Take a line in; False where it has no form, or can't stand there."""
        if words[0] == "in":
            return self.takes_in(line, words)
        if words[0] == "out":
            return self.takes_out(line, words)
        if words[0] == "repeat":
            return self.takes_repeat(line, words)
        if words == ["end"]:
            return self.takes_end()
        return self.takes_row(line, words)

    def takes_in(self, line, words):
        """A word that comes in."""
        kind = kind_told(self.width, words[2:])
        if kind is None or not is_name(words[1]) or self.rows != [] or self.outs != []:
            return False
        self.inputs.append((line, words[1], kind))
        self.met[words[1]] = True
        return True

    def takes_out(self, line, words):
        """A word that goes out."""
        if len(words) != 2 or not is_name(words[1]) or self.loops != []:
            return False
        self.outs.append((line, words[1]))
        return True

    def takes_repeat(self, line, words):
        """The beginning of a loop."""
        times = number_told(words[1], 1, 32) if len(words) == 2 else None
        if times is None or self.outs != []:
            return False
        loop = Repeat(line, times)
        self.rows_here().append(loop)
        self.loops.append(loop)
        return True

    def takes_end(self):
        """The end of the inmost loop that is open."""
        if self.loops == [] or self.rows_here() == []:
            return False
        self.loops.pop()
        return True

    def takes_row(self, line, words):
        """A row."""
        pair = row_told(self.width, line, words)
        if pair is None or self.outs != []:
            return False
        self.rows_here().append(pair[0])
        self.row_pairs.append(pair)
        for name in pair[0].goals:
            self.met[name] = True
        return True

    def rows_here(self):
        """The list to which the next row or loop comes."""
        return self.rows if self.loops == [] else self.loops[-1].rows

    def is_too_much(self):
        """Whether there are more names, or loops within one another, than a program has."""
        return len(self.met) > MOST_NAMES or len(self.loops) > MOST_LOOPS


def is_name(word):
    """Whether a text is the name of a word [70]."""
    return 1 <= len(word) <= 6 and all([sign in LETTERS for sign in word]) and word not in RESERVED


def number_told(word, low, high):
    """The number that a text tells, None where it is no number from low to high [70]."""
    number = whole_in(word, 10)
    return number if number is not None and low <= number <= high else None


def kind_told(width, words):
    """The kind that words tell, None where they tell none [70]."""
    if words == ["plain"]:
        return Plain(width)
    if words == ["signed"]:
        return Signed(width)
    if len(words) != 2 or words[0] != "point":
        return None
    point = number_told(words[1], 1, width - 1)
    return None if point is None else Pointed(width, point)


def row_told(width, line, words):
    """The row that words tell, with the kind that it tells or None; None where they tell no row [71]."""
    many = 2 if words[3:4] == ["part"] else 1
    goals = words[:many]
    if len(words) < many + 2 or words[many] != "=" or not all([is_name(goal) for goal in goals]):
        return None
    row = Row(line, words[many + 1], goals)
    things = words[many + 2:]
    if row.deed == "set":
        return set_told(width, row, things)
    shape = SHAPES.get(row.deed, ())
    if shape == () or len(things) != len(shape):
        return None
    # A part with one goal alone is none either.
    if row.deed == "part" and goals[0] == goals[-1]:
        return None
    if not all([put_into(width, row, pair[0], pair[1]) for pair in zip(shape, things)]):
        return None
    return (row, None)


def set_told(width, row, things):
    """A row set with the kind that it tells, None where the things behind it tell none or no word of it [71]."""
    kind = kind_told(width, things[:-1])
    if kind is None:
        return None
    try:
        row.numbers.append(kind.read(things[-1]))
    except NoText:
        return None
    return (row, kind)


def put_into(width, row, part, word):
    """Put what a word tells into a row; False where it doesn't tell this part [71]."""
    if part == "name":
        row.reads.append(word)
        return is_name(word)
    if part == "way":
        row.way = word
        return word in all_ways()
    if part == "fraction":
        row.numbers = fraction_told(width, word)
        return row.numbers != []
    low = 0 if part == "shift" else 1
    high = width - 1 if part == "shift" else (1 << width) - 1
    number = number_told(word, low, high)
    row.numbers.append(number)
    return number is not None


def fraction_told(width, word):
    """The two numbers of T/U, none where a word tells no such [71]."""
    parts = word.partition("/")
    bottom = number_told(parts[2], 1, (1 << width) - 1)
    if bottom is None:
        return []
    top = number_told(parts[0], 0, bottom)
    return [] if top is None else [top, bottom]


def first_walk(text):
    """The draft of a text's lines [73]."""
    if not isinstance(text, str):
        raise NoProgram(0)
    lines = text.split("\n")
    words = lines[0].split(" ")
    width = number_told(words[1], 4, 32) if len(words) == 2 and words[0] == "width" else None
    if width is None:
        raise NoProgram(0)
    draft = Draft(width)
    for line in range(1, len(lines)):
        if not draft.takes(line, lines[line].split(" ")):
            raise NoProgram(line)
        if line >= MOST_LINES or draft.is_too_much():
            raise TooMuch(line)
    if draft.loops != [] or draft.outs == []:
        raise NoProgram(len(lines))
    return draft
