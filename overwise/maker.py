"""The maker: rows for the machine that tell just the words and the marks of a program's plain run."""

from overwise.deeds import deed_steps
from overwise.papers import papers_of
from overwise.prices import need_prices
from overwise.source import Repeat
from overwise.steps import Turns


class Made:
    """The rows that are made of a program, and its papers; it is made by made alone [90]."""

    def __init__(self, steps, papers):
        self.steps = steps
        self.papers = papers


def made_of(program, rows, papers):
    """Rows of the machine for rows and loops of a program, papers being a dict from lines to papers."""
    steps = []
    for row in rows:
        if isinstance(row, Repeat):
            steps.append(Turns(row.times, made_of(program, row.rows, papers)))
        else:
            steps.extend(deed_steps(program, row, papers.get(row.line)))
    return steps


def made(program, prices):
    """What is made of a program by a table of prices [90]."""
    table = need_prices(prices)
    papers = papers_of(program, table)
    return Made(made_of(program, program.rows, dict(papers)), papers)
