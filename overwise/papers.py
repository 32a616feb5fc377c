"""Papers: how the quotient of a program's row comes without a divider, told and looked at without trust."""

from overwise.choice import candidates, choose, price_of_form
from overwise.forms import is_right, is_wrong_word
from overwise.miss import exact_form
from overwise.prices import need_prices
from overwise.signs import is_wrong_count, price_of_signed, right_for_signed, signed_candidates, signed_choose
from overwise.source import rows_of
from overwise.words import is_whole

WITH_PAPER = ("div", "rest", "part", "times")


def rows_with_paper(program):
    """The rows of a program that have a paper, lines rising [91]."""
    return [row for row in rows_of(program.rows) if row.deed in WITH_PAPER]


def row_at(program, line):
    """The row with a paper that has this line, None where the line, any thing, is none of such a row."""
    if not is_whole(line):
        return None
    for row in rows_with_paper(program):
        if row.line == line:
            return row
    return None


def by_signs(program, row):
    """Whether a row divides a count with its sign, not a plain word or a size [91]."""
    return row.deed == "div" and row.way == "cut" and program.kind_of(row.reads[0]).word() != "plain"


def choice_told(word, chosen):
    """The paper of a chosen form and the refused ones ahead of it [91]."""
    return (word, chosen[0].told(), [(pair[0].told(), pair[1]) for pair in chosen[1]])


def times_paper(width, row):
    """The paper of a product by a fraction [91]."""
    if row.numbers[0] == row.numbers[1]:
        return ("copy",)
    form = exact_form(width, row.numbers[0], row.numbers[1])
    return ("bits",) if form is None else ("exact", form[0], form[1], form[2])


def paper_for(program, row, prices):
    """The paper of a row [91]."""
    if row.deed == "times":
        return times_paper(program.width, row)
    if by_signs(program, row):
        return choice_told("signed", signed_choose(program.width, row.numbers[0], prices))
    return choice_told("form", choose(program.width, row.numbers[0], prices))


def papers_of(program, prices):
    """All papers of a program with their lines, lines rising [91]."""
    return [(row.line, paper_for(program, row, prices)) for row in rows_with_paper(program)]


def paper_of(program, line, prices):
    """The paper of a line, None where the line, any thing, has none [91]."""
    table = need_prices(prices)
    row = row_at(program, line)
    return None if row is None else paper_for(program, row, table)


def is_alike(thing, wanted):
    """Whether a thing, whatever it is, is the text, the whole number or the tuple of such that is wanted."""
    if isinstance(wanted, tuple):
        if not isinstance(thing, tuple) or len(thing) != len(wanted):
            return False
        return all([is_alike(pair[0], pair[1]) for pair in zip(thing, wanted)])
    if isinstance(wanted, str):
        return isinstance(thing, str) and thing == wanted
    return is_whole(thing) and thing == wanted


def is_refused(thing, form, is_wrong):
    """Whether a thing, whatever it is, tells of a form that it is wrong, and where."""
    if not isinstance(thing, tuple) or len(thing) != 2 or not is_alike(thing[0], form.told()):
        return False
    # None in the place of a word would say that the form is right.
    return thing[1] is not None and is_wrong(form, thing[1])


def is_choice(thing, word, forms, right, is_wrong):
    """Whether a thing is the paper of the first right one of some forms, these being in the order of their prices."""
    if not isinstance(thing, tuple) or len(thing) != 3 or not is_alike(thing[0], word):
        return False
    refused = thing[2]
    if not isinstance(refused, list) or len(refused) >= len(forms):
        return False
    chosen = forms[len(refused)]
    if not is_alike(thing[1], chosen.told()) or not right(chosen):
        return False
    return all([is_refused(pair[0], pair[1], is_wrong) for pair in zip(refused, forms)])


def is_form_paper(width, d, thing, prices):
    """Whether a thing is the paper of the form that is chosen for a divisor [92]."""
    forms = sorted(candidates(width, d), key=lambda form: price_of_form(form, prices))
    return is_choice(
        thing, "form", forms, lambda form: is_right(width, d, form),
        lambda form, word: is_wrong_word(width, d, form, word),
    )


def is_signed_paper(width, d, thing, prices):
    """Whether a thing is the paper of the signed form that is chosen for a divisor [92]."""
    forms = sorted(signed_candidates(width, d), key=lambda form: price_of_signed(form, prices))
    return is_choice(
        thing, "signed", forms, lambda form: right_for_signed(width, d, form),
        lambda form, count: is_wrong_count(width, d, form, count),
    )


def is_paper(program, line, paper, prices):
    """Whether a thing is the paper of a line, both being any things [92]."""
    table = need_prices(prices)
    row = row_at(program, line)
    if row is None:
        return False
    if row.deed == "times":
        return is_alike(paper, times_paper(program.width, row))
    if by_signs(program, row):
        return is_signed_paper(program.width, row.numbers[0], paper, table)
    return is_form_paper(program.width, row.numbers[0], paper, table)
