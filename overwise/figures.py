"""Numbers and fractions in figures, as lines of text hold them, and what forms tell in words."""

from overwise.kinds import number_in

MOST_FIGURES = 40


def whole_in(word, most):
    """The number that at most so many figures tell, None where a text is none, or has a nought ahead."""
    if not 1 <= len(word) <= most or (word[0] == "0" and word != "0"):
        return None
    return number_in(word)


def number_read(word):
    """The number that a word of a line tells, None where it tells none [111]."""
    return whole_in(word, MOST_FIGURES)


def either_read(word):
    """The number of either sign that a word of a line tells, None where it tells none [111]."""
    if not word.startswith("-"):
        return number_read(word)
    number = number_read(word[1:])
    return None if number is None or number == 0 else -number


def numbers_read(words):
    """The numbers that words of a line tell, None where one of them tells none."""
    numbers = [number_read(word) for word in words]
    return None if None in numbers else numbers


def fraction_read(word):
    """The top, of either sign, and the bottom that a word of a line tells, None where it tells none [111]."""
    parts = word.partition("/")
    top = either_read(parts[0])
    bottom = number_read(parts[2])
    return None if top is None or bottom is None else (top, bottom)


def fraction_text(one):
    """A fraction as an answer holds it [111]."""
    return str(one[0]) + "/" + str(one[1])


def told_text(told):
    """What a form tells, its words and numbers one behind the other [114]."""
    return " ".join([told_text(part) if isinstance(part, tuple) else str(part) for part in told])


def choice_text(told, refused):
    """What a form tells, and behind it each refused one with the word or count at which it is wrong [114]."""
    parts = [told_text(told)]
    for pair in refused:
        parts.append("not " + told_text(pair[0]) + " at " + str(pair[1]))
    return " ".join(parts)


def paper_text(paper):
    """A paper of a program's row as an answer holds it [114]."""
    if paper[0] in ("form", "signed"):
        return paper[0] + " " + choice_text(paper[1], paper[2])
    return told_text(paper)
