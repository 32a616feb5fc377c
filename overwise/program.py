"""Programs: the second walk, which looks at names and kinds, and what a program tells."""

from overwise.errors import TooMuch, Twice, Unknown, WrongKind
from overwise.kinds import Plain, Pointed, Signed, half, same_kind
from overwise.source import Repeat, first_walk

READ_PLAIN = ("low", "high", "over", "rest", "part")
READ_ALIKE = ("add", "sub", "addstop", "substop", "less", "same", "mul", "pick")
MOST_ROWS = 600


class Program:
    """What a text of lines tells; it is made by read_program alone [75]."""

    def __init__(self, draft, kinds, source):
        self.width = draft.width
        self.inputs = [(thing[1], thing[2]) for thing in draft.inputs]
        self.rows = draft.rows
        self.outs = [thing[1] for thing in draft.outs]
        self.kinds = kinds
        self.source = source

    def kind_of(self, name):
        """The kind of one of the program's names [75]."""
        return alike(self.kinds[name])

    def names(self):
        """All names with their kinds, in the order in which they first come in or are put [75]."""
        return [(name, alike(self.kinds[name])) for name in self.kinds]

    def rows_run(self):
        """How many rows a run does [75]."""
        return count_rows(self.rows)

    def text(self):
        """The very text that was read [75]."""
        return self.source


def alike(kind):
    """A new kind that is the same."""
    if kind.word() == "plain":
        return Plain(kind.width)
    if kind.word() == "signed":
        return Signed(kind.width)
    return Pointed(kind.width, kind.point)


def count_rows(rows):
    """How many rows are done, those within loops as often as they are done [74]."""
    return sum([row.times * count_rows(row.rows) if isinstance(row, Repeat) else 1 for row in rows])


def not_of_word(names, kinds, word):
    """The first of some names whose kind has another word, or None."""
    for name in names:
        if kinds[name].word() != word:
            return name
    return None


def wrongly_read(width, row, kinds):
    """The name that a row reads and whose kind doesn't go with it, or None [74]."""
    wrong = None
    if row.deed in READ_PLAIN:
        wrong = not_of_word(row.reads, kinds, "plain")
    if row.deed == "mul":
        wrong = not_of_word(row.reads, kinds, "point")
    if row.deed == "pick":
        wrong = not_of_word(row.reads[:1], kinds, "plain")
    if row.deed in ("div", "times") and row.numbers[-1] > half(width):
        wrong = not_of_word(row.reads, kinds, "plain")
    if wrong is None and row.deed in READ_ALIKE and not same_kind(kinds[row.reads[-2]], kinds[row.reads[-1]]):
        wrong = row.reads[-1]
    return wrong


def kind_put(width, row, told, kinds):
    """The kind of what a row puts; told is the one of a row set [72]."""
    if told is not None:
        return told
    if row.deed in ("less", "same"):
        return Plain(width)
    return kinds[row.reads[-1]]


def need_row(width, row, told, kinds):
    """Refuse a row by the names and kinds of the lines ahead, and take in what it puts [74]."""
    for name in row.reads:
        if name not in kinds:
            raise Unknown(row.line, name)
    wrong = wrongly_read(width, row, kinds)
    if wrong is not None:
        raise WrongKind(row.line, wrong)
    kind = kind_put(width, row, told, kinds)
    for name in row.goals:
        if name in kinds and not same_kind(kinds[name], kind):
            raise WrongKind(row.line, name)
    for name in row.goals:
        kinds[name] = kind


def need_outs(outs, kinds):
    """Refuse what goes out unknown, or a second time [74]."""
    met = {}
    for out in outs:
        if out[1] not in kinds:
            raise Unknown(out[0], out[1])
        if out[1] in met:
            raise Twice(out[0], out[1])
        met[out[1]] = True


def second_walk(draft):
    """The kinds of all names, in the order in which they first come in or are put [74]."""
    kinds = {}
    for thing in draft.inputs:
        if thing[1] in kinds:
            raise Twice(thing[0], thing[1])
        kinds[thing[1]] = thing[2]
    for pair in draft.row_pairs:
        need_row(draft.width, pair[0], pair[1], kinds)
    need_outs(draft.outs, kinds)
    return kinds


def read_program(text):
    """The program that a text tells [73], [74]."""
    draft = first_walk(text)
    kinds = second_walk(draft)
    if count_rows(draft.rows) > MOST_ROWS:
        raise TooMuch(-1)
    return Program(draft, kinds, text)
