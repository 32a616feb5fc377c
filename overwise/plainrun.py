"""The plain run of a program: what its rows put, in whole numbers and with a divider at hand."""

from overwise.errors import NoInput
from overwise.source import rows_done
from overwise.ways import way_of
from overwise.words import is_word

GO_ROUND = ("add", "sub", "left", "low")
STOP = ("addstop", "substop", "mul")


class PlainRun:
    """The words by their names, the marks and the trace, as far as a run has come [76]."""

    def __init__(self, program, inputs):
        self.kinds = dict(program.names())
        self.words = taken_in(program, inputs)
        self.marks = []
        self.puts = []

    def do_row(self, row):
        """Do a row: read all that it reads, then put what it brings."""
        kind = self.kinds[row.goals[0]]
        counts = [self.kinds[name].count_of(self.words[name]) for name in row.reads]
        mark = ""
        if row.deed == "set":
            put = row.numbers
        elif row.deed == "part":
            put = [counts[0] // row.numbers[0], counts[0] % row.numbers[0]]
        elif row.deed == "over" and counts[1] == 0:
            put = [kind.greatest()]
            mark = "nothing"
        else:
            brought = word_brought(kind, row, counts)
            put = [brought[0]]
            mark = brought[1]
        for pair in zip(row.goals, put):
            self.words[pair[0]] = pair[1]
            self.puts.append((row.line, pair[0], pair[1]))
        if mark != "":
            self.marks.append((row.line, mark))


def taken_in(program, inputs):
    """The words that come in, by their names [76]."""
    words = {}
    for pair in program.inputs:
        bits = inputs.get(pair[0])
        if not is_word(program.width, bits):
            raise NoInput(pair[0])
        words[pair[0]] = bits
    return words


def word_brought(kind, row, counts):
    """The bits of what a row brings, and its mark or the text without signs [76]."""
    number = number_brought(kind, row, counts)
    if row.deed in GO_ROUND:
        told = kind.go_round(number)
        return (told[0], "round" if told[1] else "")
    if row.deed in STOP:
        told = kind.stop_at(number)
        return (told[0], "stop" if told[1] else "")
    return (kind.bits_of(number), "")


def number_brought(kind, row, counts):
    """The whole number that a row brings, of the counts that it reads [76]."""
    x = counts[0]
    if len(row.numbers) > 0:
        return number_by_numbers(row, x)
    if row.deed == "copy":
        return x
    if row.deed == "pick":
        return counts[1] if x != 0 else counts[2]
    y = counts[1]
    if row.deed in ("add", "addstop"):
        return x + y
    if row.deed in ("sub", "substop"):
        return x - y
    if row.deed == "less":
        return 1 if x < y else 0
    if row.deed == "same":
        return 1 if x == y else 0
    if row.deed == "over":
        return x // y
    if row.deed == "mul":
        return way_of(row.way).rounded(x * y, 1 << kind.point)
    return x * y if row.deed == "low" else (x * y) >> kind.width


def number_by_numbers(row, x):
    """The whole number that a row with numbers of its own brings, of the count that it reads [76]."""
    number = row.numbers[0]
    if row.deed == "left":
        return x << number
    if row.deed == "right":
        return x >> number
    if row.deed == "rest":
        return x % number
    if row.deed == "div":
        return way_of(row.way).rounded(x, number)
    return way_of(row.way).rounded(x * number, row.numbers[1])


def done(program, inputs):
    """A run of a program, behind its last row."""
    state = PlainRun(program, inputs)
    for row in rows_done(program.rows):
        state.do_row(row)
    return state


def run(program, inputs):
    """The words that go out, by their names, and the marks [77]."""
    state = done(program, inputs)
    outs = {}
    for name in program.outs:
        outs[name] = state.words[name]
    return (outs, state.marks)


def trace(program, inputs):
    """All that a run puts, in order [77]."""
    return done(program, inputs).puts
