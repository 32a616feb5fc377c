"""How far the words of a program may lie from its exact run: a bound for each putting, told without a run."""

from overwise.errors import Unknown
from overwise.exactrun import AS_PUT, factor_of
from overwise.ratios import by_twos, less, plus, raised, times
from overwise.source import rows_done
from overwise.ways import way_of

PLACES = 64


def own_part(kind, row):
    """The fraction that a row itself brings, of the kind that it puts [103]."""
    if row.way != "":
        return times(way_of(row.way).most_miss(), by_twos(1, kind.point))
    if row.deed == "right":
        k = row.numbers[0]
        return by_twos((1 << k) - 1, k + kind.point)
    return (0, 1)


def mul_bound(kind, e, f):
    """What the bounds of two words with a point bring to that of their product, its rounding aside [103]."""
    most = (1 << (kind.width - 1 - kind.point), 1)
    return plus(times(most, plus(e, f)), times(e, f))


def carried_on(kind, row, read):
    """What the bounds of the names that a row reads carry on to that of the name that it puts [103]."""
    if row.deed == "mul":
        return mul_bound(kind, read[0], read[1])
    if row.deed == "pick":
        return read[1] if less(read[0], read[1]) else read[0]
    if len(read) == 2:
        return plus(read[0], read[1])
    return times(read[0], factor_of(row))


def bound_put(kind, row, own, known):
    """The bound of a name from a row on that puts it, None where there is none [103], [104]."""
    if row.deed in AS_PUT:
        return (0, 1)
    # Which of two words is picked is looked at in the plain run alone, so the word that tells it brings nothing.
    names = row.reads[1:] if row.deed == "pick" else row.reads
    read = [known[name] for name in names]
    if None in read:
        return None
    bound = raised(plus(carried_on(kind, row, read), own), PLACES)
    return None if less((1 << PLACES, 1), bound) else bound


def bounds(program):
    """All that a run puts, with what each row brings itself and the bound from then on [103]."""
    kinds = dict(program.names())
    known = {}
    for pair in program.inputs:
        known[pair[0]] = (0, 1)
    told = []
    for row in rows_done(program.rows):
        kind = kinds[row.goals[0]]
        own = own_part(kind, row)
        bound = bound_put(kind, row, own, known)
        for name in row.goals:
            known[name] = bound
            told.append((row.line, name, own, bound))
    return told


def bound_of(program, name):
    """The bound of a name behind the last row, None where there is none [105]."""
    if not isinstance(name, str) or name not in dict(program.names()):
        raise Unknown(-1, name)
    bound = (0, 1)
    for put in bounds(program):
        if put[1] == name:
            bound = put[3]
    return bound
