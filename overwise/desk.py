"""The desk: it keeps a program and prices, and answers lines of text."""

from overwise.asked import asked
from overwise.bounds import bound_of
from overwise.errors import NoDesk
from overwise.exactrun import exact_run
from overwise.figures import fraction_text, number_read, paper_text
from overwise.machine import cost_of, run_steps
from overwise.maker import made
from overwise.plainrun import run, taken_in, trace
from overwise.prices import row_words
from overwise.program import read_program
from overwise.steptexts import steps_text

# A line feed of a program or of rows is written so in a line of the desk.
BETWEEN = " / "
WITH_PUTS = ("run", "machine", "trace", "exact")
OF_PROGRAM = ("cost", "rows", "papers", "bound")
MOST_PRICE = 1000


def words_of_line(line):
    """The words of a line, None where a thing is no line [110]."""
    if not isinstance(line, str):
        return None
    words = line.split(" ")
    return None if "" in words else words


def figures_put(program, words):
    """The figures by the names of the inputs for which they are put, None where a word has another form [113]."""
    names = dict(program.inputs)
    figures = {}
    for word in words:
        parts = word.partition("=")
        if parts[1] == "" or parts[0] not in names or parts[0] in figures:
            return None
        figures[parts[0]] = parts[2]
    return figures


def shown_words(program, outs):
    """Words by their names, as their kinds show them."""
    return [name + "=" + program.kind_of(name).shown(outs[name]) for name in program.outs]


def run_text(program, outs, marks):
    """The words that go out, and the marks [113]."""
    return " ".join(shown_words(program, outs) + [str(mark[0]) + ":" + mark[1] for mark in marks])


def machine_text(program, prices, inputs):
    """The same, of the machine's run of the made rows [113]."""
    found = run_steps(program.width, made(program, prices).steps, inputs)
    return run_text(program, found[0], found[1])


def put_text(program, put):
    """A thing of the trace [113]."""
    return str(put[0]) + ":" + put[1] + "=" + program.kind_of(put[1]).shown(put[2])


def exact_text(program, inputs):
    """The exact fractions that go out [113]."""
    outs = exact_run(program, inputs)
    if outs is None:
        return "none"
    return " ".join([name + "=" + fraction_text(outs[name]) for name in program.outs])


def run_answer(program, prices, words):
    """The answer to a line with PUTS, None where it has another form [113]."""
    figures = figures_put(program, words[1:])
    if figures is None:
        return None
    told = {}
    for name in figures:
        told[name] = program.kind_of(name).read(figures[name])
    inputs = taken_in(program, told)
    if words[0] == "run":
        found = run(program, inputs)
        return run_text(program, found[0], found[1])
    if words[0] == "machine":
        return machine_text(program, prices, inputs)
    if words[0] == "trace":
        return " ".join([put_text(program, put) for put in trace(program, inputs)]) or "none"
    return exact_text(program, inputs)


def program_answer(program, prices, words):
    """The answer to a line that asks of the program and the prices, None where it has another form [114]."""
    if words[0] == "bound":
        if len(words) != 2:
            return None
        bound = bound_of(program, words[1])
        return "none" if bound is None else fraction_text(bound)
    if len(words) != 1:
        return None
    found = made(program, prices)
    if words[0] == "cost":
        return str(cost_of(program.width, found.steps, prices))
    if words[0] == "rows":
        return steps_text(found.steps).replace("\n", BETWEEN) or "none"
    papers = [str(pair[0]) + " " + paper_text(pair[1]) for pair in found.papers]
    return BETWEEN.join(papers) or "none"


class Desk:
    """A desk that answers lines of text [110]."""

    def __init__(self):
        self.program = None
        self.prices = {}
        for word in row_words():
            self.prices[word] = 1
        # What was kept ahead of each line that can be taken back, with that line's first word.
        self.ahead = []

    def say(self, line):
        """The answer to a line [110]."""
        words = words_of_line(line)
        answer = None if words is None else self.answer_to(words)
        if answer is None:
            raise NoDesk(line)
        return answer

    def answer_to(self, words):
        """The answer to the words of a line, None where they have no form, or there is nothing to answer of."""
        first = words[0]
        if first == "program":
            return self.say_program(words)
        if first == "price":
            return self.say_price(words)
        if first == "prices":
            return self.say_prices() if len(words) == 1 else None
        if first == "undo":
            return self.say_undo() if len(words) == 1 else None
        if first in WITH_PUTS:
            return None if self.program is None else run_answer(self.program, self.prices, words)
        if first in OF_PROGRAM:
            return None if self.program is None else program_answer(self.program, self.prices, words)
        return asked(words, self.prices)

    def keep(self, first, program, prices):
        """Keep a program and prices, so that they can be taken back."""
        self.ahead.append((first, self.program, self.prices))
        self.program = program
        self.prices = prices

    def say_program(self, words):
        """Keep a program, or tell the kept one [111]."""
        if len(words) == 1:
            return None if self.program is None else self.program.text().replace("\n", BETWEEN)
        lines = " ".join(words[1:]).replace(BETWEEN, "\n")
        program = read_program(lines)
        self.keep("program", program, self.prices)
        return "lines " + str(len(lines.split("\n"))) + " rows " + str(program.rows_run())

    def say_price(self, words):
        """Keep a price [111]."""
        number = number_read(words[2]) if len(words) == 3 else None
        if number is None or number > MOST_PRICE or words[1] not in self.prices:
            return None
        prices = dict(self.prices)
        prices[words[1]] = number
        self.keep("price", self.program, prices)
        return words[1] + " " + words[2]

    def say_prices(self):
        """All prices, in the order of their words [111]."""
        return " ".join([word + " " + str(self.prices[word]) for word in row_words()])

    def say_undo(self):
        """Take the last line that was kept back [112]."""
        if self.ahead == []:
            return None
        kept = self.ahead.pop()
        self.program = kept[1]
        self.prices = kept[2]
        return "undone " + kept[0]
