"""The exact run of a program: fractions beside the words of its plain run, without rounding and without ends."""

from overwise.errors import TooMuch
from overwise.plainrun import done, taken_in
from overwise.ratios import fraction, minus, plus, times
from overwise.source import rows_done

# Deeds whose exact fraction is the value of the word that the plain run puts.
AS_PUT = ("set", "low", "high", "rest", "over", "part", "less", "same")
MOST_BITS = 2000


class ExactRun:
    """The words and the fractions by their names, and the trace, as far as an exact run has come [100]."""

    def __init__(self, program, inputs):
        self.kinds = dict(program.names())
        self.words = taken_in(program, inputs)
        self.fractions = {}
        self.puts = []
        for name in self.words:
            self.fractions[name] = self.kinds[name].value_of(self.words[name])

    def do_row(self, row, bits):
        """Do a row, bits being the words that the plain run puts there."""
        brought = [self.fraction_put(row, pair[0], pair[1]) for pair in zip(row.goals, bits)]
        for k in range(len(bits)):
            if is_too_much(brought[k]):
                raise TooMuch(row.line)
            self.words[row.goals[k]] = bits[k]
            self.fractions[row.goals[k]] = brought[k]
            self.puts.append((row.line, row.goals[k], brought[k]))

    def fraction_put(self, row, name, word):
        """The fraction that a row puts by a name where the plain run puts a word [100]."""
        if row.deed in AS_PUT:
            return self.kinds[name].value_of(word)
        if row.deed == "pick":
            return self.fractions[row.reads[1] if self.words[row.reads[0]] != 0 else row.reads[2]]
        return fraction_brought(row, [self.fractions[read] for read in row.reads])


def is_too_much(one):
    """Whether a fraction is beyond the bound of exact runs [101]."""
    return abs(one[0]) >= 1 << MOST_BITS or one[1] >= 1 << MOST_BITS


def factor_of(row):
    """The fraction by which a row multiplies the one word that it reads [100]."""
    if row.deed == "left":
        return (1 << row.numbers[0], 1)
    if row.deed == "right":
        return (1, 1 << row.numbers[0])
    if row.deed == "div":
        return (1, row.numbers[0])
    if row.deed == "times":
        return fraction(row.numbers[0], row.numbers[1])
    return (1, 1)


def fraction_brought(row, read):
    """The fraction that a row brings, of those that it reads [100]."""
    if row.deed in ("add", "addstop"):
        return plus(read[0], read[1])
    if row.deed in ("sub", "substop"):
        return minus(read[0], read[1])
    if row.deed == "mul":
        return times(read[0], read[1])
    return times(read[0], factor_of(row))


def exactly_done(program, inputs):
    """An exact run behind its last row, None where the plain run went round or stopped [101]."""
    plain = done(program, inputs)
    if any([mark[1] in ("round", "stop") for mark in plain.marks]):
        return None
    state = ExactRun(program, inputs)
    place = 0
    for row in rows_done(program.rows):
        many = len(row.goals)
        state.do_row(row, [put[2] for put in plain.puts[place:place + many]])
        place = place + many
    return state


def exact_run(program, inputs):
    """The exact fractions that go out, by their names, or None [102]."""
    state = exactly_done(program, inputs)
    if state is None:
        return None
    outs = {}
    for name in program.outs:
        outs[name] = state.fractions[name]
    return outs


def exact_trace(program, inputs):
    """All that an exact run puts, in order, or None [102]."""
    state = exactly_done(program, inputs)
    return None if state is None else state.puts
