"""The machine without a divider: looking at its rows, running them, and what a run costs."""

from overwise.errors import NoRegister, NoRow, TooMuch
from overwise.prices import need_prices, row_words
from overwise.steps import Step, Turns, is_register
from overwise.words import is_word, need_width

MOST_TURNS = 5
MOST_DONE = 1000000


def is_good(width, thing, about):
    """Whether a thing, whatever it is, is a good row by its own fields where so many Turns stand about it [83]."""
    if not isinstance(thing, Step) or not thing.good_at(width):
        return False
    return not isinstance(thing, Turns) or about < MOST_TURNS


def place_behind(width, steps, place, about):
    """The place behind a list of rows that begins at this place, all of them looked at [83]."""
    for step in steps:
        if not is_good(width, step, about):
            raise NoRow(place)
        place = place + 1
        if isinstance(step, Turns):
            place = place_behind(width, step.steps, place, about + 1)
    return place


def count_words(steps, times, counts):
    """Put to the counts how often each word is done where a list of good rows is done so many times [84]."""
    for step in steps:
        many = times * step.times if isinstance(step, Turns) else times
        counts[step.word()] = counts[step.word()] + many
        if isinstance(step, Turns):
            count_words(step.steps, many, counts)


def need_steps(width, steps):
    """Refuse what are no good rows [83], and tell how often each word is done in a run of them [84]."""
    need_width(width)
    if not isinstance(steps, list):
        raise NoRow(0)
    place_behind(width, steps, 0, 0)
    counts = {}
    for word in row_words():
        counts[word] = 0
    count_words(steps, 1, counts)
    if sum(counts.values()) > MOST_DONE:
        raise TooMuch(-1)
    return counts


def check_steps(width, steps):
    """How many rows a run of good rows does [83]."""
    return sum(need_steps(width, steps).values())


def need_registers(width, registers):
    """Refuse the first key that can't hold a word, or that holds none [84]."""
    for key in registers:
        if not isinstance(key, str):
            raise NoRegister(key)
    for name in sorted(registers):
        if not is_register(name) or not is_word(width, registers[name]):
            raise NoRegister(name)


def run_steps(width, steps, registers):
    """The words, the marks and the counts behind a run of the rows [84]."""
    counts = need_steps(width, steps)
    need_registers(width, registers)
    words = dict(registers)
    marks = []
    for step in steps:
        step.act(width, words, marks)
    return (words, marks, counts)


def cost_of(width, steps, prices):
    """What a run of the rows costs [85]."""
    counts = need_steps(width, steps)
    table = need_prices(prices)
    return sum([counts[word] * table[word] for word in counts])
