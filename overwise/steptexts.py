"""Texts of the machine's rows: a line for each row, written and read."""

from overwise.errors import NoText
from overwise.machine import MOST_TURNS
from overwise.source import number_told
from overwise.steps import (
    And, Copy, Gap, High, Left, Low, Mark, Or, Pick, Right, Set, Slide, Sum, Turns, Under, Unlike,
)

# What stands behind the word of each row but turns, a part for each field.
SHAPES = {
    "set": ("name", "number"), "copy": ("name", "name"), "sum": ("name", "carry", "name", "name"),
    "gap": ("name", "carry", "name", "name"), "low": ("name", "name", "name"), "high": ("name", "name", "name"),
    "left": ("name", "name", "number"), "right": ("name", "name", "number"), "slide": ("name", "name", "number"),
    "and": ("name", "name", "name"), "or": ("name", "name", "name"), "unlike": ("name", "name", "name"),
    "under": ("name", "name", "name"), "pick": ("name", "name", "name", "name"), "mark": ("number", "name", "name"),
}
# Rows in a text have no width; each that is good at some width is so at this one.
WIDEST = 32


def field_text(field):
    """A field as it is written in a line [86]."""
    return "-" if field is None else str(field)


def lines_of(steps):
    """The lines of good rows, those within a Turns between its own line and an end [86]."""
    lines = []
    for step in steps:
        if isinstance(step, Turns):
            lines.append("turns " + str(step.times))
            lines.extend(lines_of(step.steps))
            lines.append("end")
        else:
            lines.append(" ".join([field_text(field) for field in step.told()]))
    return lines


def steps_text(steps):
    """The text of good rows [86]."""
    return "\n".join(lines_of(steps))


def field_told(part, word):
    """The field that a word of a line tells; what is none is told as something that no good row has there."""
    if part == "number":
        return number_told(word, 0, (1 << WIDEST) - 1)
    if part == "carry" and word == "-":
        return None
    return word


def row_made(word, fields):
    """A row of its word, one of the fifteen but turns, and its fields."""
    one = fields[0]
    if word == "set":
        return Set(one, fields[1])
    if word == "copy":
        return Copy(one, fields[1])
    if word == "left":
        return Left(one, fields[1], fields[2])
    if word == "right":
        return Right(one, fields[1], fields[2])
    if word == "slide":
        return Slide(one, fields[1], fields[2])
    if word == "mark":
        return Mark(one, fields[1], fields[2])
    if word == "sum":
        return Sum(one, fields[1], fields[2], fields[3])
    if word == "gap":
        return Gap(one, fields[1], fields[2], fields[3])
    if word == "pick":
        return Pick(one, fields[1], fields[2], fields[3])
    return joining_made(word, one, fields[1], fields[2])


def joining_made(word, goal, one, other):
    """A row that makes one word of two."""
    if word == "low":
        return Low(goal, one, other)
    if word == "high":
        return High(goal, one, other)
    if word == "and":
        return And(goal, one, other)
    if word == "or":
        return Or(goal, one, other)
    if word == "unlike":
        return Unlike(goal, one, other)
    return Under(goal, one, other)


def row_read(words):
    """The good row that the words of a line tell, but no Turns; None where they tell none."""
    shape = SHAPES.get(words[0], ())
    if shape == () or len(words) != len(shape) + 1:
        return None
    row = row_made(words[0], [field_told(pair[0], pair[1]) for pair in zip(shape, words[1:])])
    return row if row.good_at(WIDEST) else None


class Reading:
    """The rows that the lines ahead have told, as far as a text is read [87]."""

    def __init__(self):
        # The list of the text itself and those of the Turns that are open, the inmost last.
        self.lists = [[]]
        self.turns = []

    def takes(self, words):
        """Take a line in; False where it has no form, or can't stand there."""
        if words[0] == "turns":
            return self.takes_turns(words)
        if words == ["end"]:
            return self.takes_end()
        row = row_read(words)
        if row is None:
            return False
        self.lists[-1].append(row)
        return True

    def takes_turns(self, words):
        """The beginning of a Turns."""
        times = number_told(words[1], 1, 64) if len(words) == 2 else None
        if times is None or len(self.turns) >= MOST_TURNS:
            return False
        self.turns.append(times)
        self.lists.append([])
        return True

    def takes_end(self):
        """The end of the inmost Turns that is open."""
        if self.turns == [] or self.lists[-1] == []:
            return False
        steps = self.lists.pop()
        self.lists[-1].append(Turns(self.turns.pop(), steps))
        return True


def read_steps(text):
    """The rows of which this is the very text [87]."""
    if not isinstance(text, str):
        raise NoText(text)
    if text == "":
        return []
    reading = Reading()
    for line in text.split("\n"):
        if not reading.takes(line.split(" ")):
            raise NoText(text)
    if reading.turns != []:
        raise NoText(text)
    return reading.lists[0]
