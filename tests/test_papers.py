import random
import unittest

from overwise.choice import candidates, choose, price_of_form
from overwise.errors import NoPrices
from overwise.kinds import Plain
from overwise.maker import Made, made
from overwise.miss import exact_form
from overwise.papers import is_paper, paper_of
from overwise.program import read_program
from overwise.signs import price_of_signed, signed_candidates, signed_choose
from tests.helper import NO_NUMBERS, NO_TABLES, TABLES, WAYS, Case, Drawing, bare, counted, prices_of, same, walked

THINGS = NO_NUMBERS + [0, 1, -1, 10 ** 39, (), ("copy",), ("bits",), ["copy"], ("form", ("shifted", 0), []), Plain(8)]


def told(chosen):
    return (chosen[0].told(), [(form.told(), word) for form, word in chosen[1]])


def one_row(width, kind, row):
    goals = "x y" if row.startswith("part") else "x"
    return read_program(f"width {width}\nin a {kind}\n{goals} = {row}\nout x")


def wrong_count(width, d, form):
    """The count nearest to nought at which a signed form is wrong, the one above nought first, by a walk."""
    half = 2 ** (width - 1)
    for far in range(half + 1):
        for x in (far, -far):
            if x < half and form.quotient(width, x) != (abs(x) // d) * (1 if x >= 0 else -1):
                return x
    return None


def by_walk(width, d, prices, signed):
    """The paper of a divisor, by walks through all words."""
    forms = signed_candidates(width, d) if signed else candidates(width, d)
    price = price_of_signed if signed else price_of_form
    order = sorted(range(len(forms)), key=lambda place: (price(forms[place], prices), place))
    refused = []
    for place in order:
        form = forms[place]
        word = wrong_count(width, d, form) if signed else walked(width, d, form.numbers_in(width))
        if word is None:
            return ("signed" if signed else "form", form.told(), refused)
        refused.append((form.told(), word))


class Told(Case):
    def test_plain_words(self):
        for table in TABLES:
            for d in range(1, 16):
                for row in [f"rest a {d}", f"part a {d}"] + [f"div a {d} {way}" for way in WAYS]:
                    program = one_row(4, "plain", row)
                    wanted = by_walk(4, d, table, False)
                    self.same(paper_of(program, 2, table), wanted, row)
                    self.same(made(program, table).papers, [(2, wanted)])
                    self.assertIs(is_paper(program, 2, wanted, table), True)

    def test_words_with_a_sign(self):
        for table in TABLES[::2]:
            for d in range(1, 17):
                for kind in ("signed", "point 3"):
                    for way in WAYS:
                        program = one_row(5, kind, f"div a {d} {way}")
                        wanted = by_walk(5, d, table, way == "cut")
                        self.same(paper_of(program, 2, table), wanted, kind, d, way)
                        self.same(made(program, table).papers, [(2, wanted)])
                        self.assertIs(is_paper(program, 2, wanted, table), True)

    def test_as_choose_and_signed_choose_tell(self):
        for width in (8, 31, 32):
            for d in (1, 2, 3, 7, 10, 60, 127, 128, 2 ** (width - 1) - 1, 2 ** (width - 1)):
                for table in TABLES[:4]:
                    wanted = ("form",) + told(choose(width, d, table))
                    for kind, row in (("plain", f"rest a {d}"), ("plain", f"div a {d} cut"), ("signed", f"div a {d} near"),
                                      ("point 4", f"div a {d} down")):
                        self.same(paper_of(one_row(width, kind, row), 2, table), wanted)
                    wanted = ("signed",) + told(signed_choose(width, d, table))
                    for kind in ("signed", "point 4"):
                        self.same(paper_of(one_row(width, kind, f"div a {d} cut"), 2, table), wanted)

    def test_fractions(self):
        met = set()
        for width in (4, 5, 8, 32):
            for bottom in (1, 2, 3, 5, 7, 8, 2 ** (width - 1) - 1, 2 ** (width - 1)):
                for top in sorted({0, 1, bottom // 3, bottom // 2, bottom - 1, bottom}):
                    for kind in ("plain", "signed", "point 1"):
                        program = one_row(width, kind, f"times a {top}/{bottom} near")
                        form = exact_form(width, top, bottom)
                        wanted = ("copy",) if top == bottom else ("bits",) if form is None else ("exact",) + form
                        met.add(wanted[0])
                        for table in TABLES[:2]:
                            self.same(paper_of(program, 2, table), wanted)
                            self.same(made(program, table).papers, [(2, wanted)])
                            self.assertIs(is_paper(program, 2, wanted, table), True)
        self.same(met, {"copy", "bits", "exact"})

    def test_fractions_that_are_one_in_lower_terms(self):
        self.same(paper_of(one_row(8, "plain", "times a 7/7 up"), 2, prices_of()), ("copy",))
        self.same(paper_of(one_row(8, "plain", "times a 255/255 up"), 2, prices_of()), ("copy",))
        self.same(paper_of(one_row(8, "plain", "times a 0/7 up"), 2, prices_of()), ("exact", 0, 0, 8))

    def test_told_by_hand(self):
        self.same(paper_of(one_row(32, "plain", "rest a 10"), 2, prices_of()), ("form", ("scaled", 3435973837, 3), [
            (("shifted", 3), 8), (("scaled", 429496730, 0), 1073741829), (("scaled", 858993460, 1), 1073741829),
            (("scaled", 1717986919, 2), 2863311539)]))
        self.same(paper_of(one_row(8, "signed", "div a 1 cut"), 2, prices_of()), ("signed", ("turned", ("shifted", 0)), []))
        self.same(paper_of(one_row(8, "signed", "div a 3 cut"), 2, prices_of(gap=0)), ("signed", ("cutting", 86, 0), [
            (("turned", ("shifted", 1)), 2)]))
        self.same(paper_of(one_row(8, "plain", "div a 4 near"), 2, prices_of()), ("form", ("shifted", 2), []))


class Lines(Case):
    TEXT = (
        "width 8\nin a plain\nin s signed\nb = copy a\nrepeat 2\nx = rest a 7\nrepeat 3\nx y = part x 10\ns = div s 3 cut\nend\nend\n"
        "t = times s 1/3 up\ns = div s 3 near\nrepeat 1\na = times a 5/5 near\nend\nout x"
    )

    def test_lines_rising_within_loops_too(self):
        program = read_program(self.TEXT)
        papers = made(program, prices_of()).papers
        self.same([line for line, paper in papers], [5, 7, 8, 11, 12, 14])
        self.same([paper[0] for line, paper in papers], ["form", "form", "signed", papers[3][1][0], "form", "copy"])
        for line, paper in papers:
            self.same(paper_of(program, line, prices_of()), paper)
            self.assertIs(is_paper(program, line, paper, prices_of()), True)

    def test_other_lines(self):
        program = read_program(self.TEXT)
        papers = made(program, prices_of()).papers
        for line in list(range(-3, 30)) + NO_NUMBERS + [10 ** 39, -(10 ** 39), "5", (5,), [5], 5 == 5]:
            if any(same(line, other) for other, paper in papers):
                continue
            self.same(paper_of(program, line, prices_of()), None)
            for other, paper in papers:
                self.assertIs(is_paper(program, line, paper, prices_of()), False)
            self.assertIs(is_paper(program, line, None, prices_of()), False)

    def test_true_is_no_line(self):
        program = read_program("width 8\nx = set plain 3\nx = rest x 3\nout x")
        paper = paper_of(program, 2, prices_of())
        self.assertIs(is_paper(program, 2, paper, prices_of()), True)
        # No row with a paper stands at line 1, for the width and what it reads stand ahead of it.
        self.assertIs(is_paper(program, True, paper, prices_of()), False)
        self.same(paper_of(program, True, prices_of()), None)

    def test_the_paper_of_another_line(self):
        program = read_program(self.TEXT)
        papers = made(program, prices_of()).papers
        for line, paper in papers:
            for other, thing in papers:
                self.assertIs(is_paper(program, line, thing, prices_of()), same(paper, thing))

    def test_other_prices(self):
        program = read_program("width 8\nin a plain\nx = rest a 7\nout x")
        for table in TABLES:
            for other in TABLES:
                paper = paper_of(program, 2, other)
                self.assertIs(is_paper(program, 2, paper, table), same(paper, paper_of(program, 2, table)))


class OneThingOtherwise(Case):
    PROGRAMS = [
        (8, "plain", "rest a 7"), (8, "plain", "part a 28"), (8, "plain", "div a 10 near"), (32, "plain", "div a 7 up"),
        (8, "signed", "div a 7 cut"), (32, "point 3", "div a 10 cut"), (8, "signed", "div a 10 down"), (8, "plain", "times a 1/3 near"),
        (8, "signed", "times a 77/127 up"), (8, "plain", "times a 5/5 up"), (5, "plain", "rest a 1"), (8, "signed", "div a 1 cut"),
    ]

    def otherwise(self, thing):
        """The thing with one thing in it otherwise, in every way that is tried."""
        if isinstance(thing, (list, tuple)):
            kind = type(thing)
            yield list(thing) if kind is tuple else tuple(thing)
            for place in range(len(thing)):
                for other in self.otherwise(thing[place]):
                    yield kind(list(thing[:place]) + [other] + list(thing[place + 1:]))
                yield kind(list(thing[:place]) + list(thing[place + 1:]))
                yield kind(list(thing[:place]) + [thing[place]] + list(thing[place:]))
                for later in range(place + 1, len(thing)):
                    parts = list(thing)
                    parts[place], parts[later] = parts[later], parts[place]
                    yield kind(parts)
            yield kind(list(thing) + [None])
            yield kind(list(thing) + [0])
            yield None
        elif isinstance(thing, str):
            yield from ("", thing + " ", thing.upper(), "form", "signed", "exact", "bits", "copy", "scaled", "wide", "cutting", "turned",
                        None, 1, (thing,))
        else:
            yield from (thing + 1, thing - 1, -thing - 1, 0, 1, None, True, False, str(thing), [thing], (thing,), 10 ** 39, 2 ** 31)

    def test_each_thing(self):
        for width, kind, row in self.PROGRAMS:
            program = one_row(width, kind, row)
            for table in TABLES[:1] + TABLES[3:6]:
                paper = paper_of(program, 2, table)
                self.assertIs(is_paper(program, 2, paper, table), True)
                for thing in self.otherwise(paper):
                    self.assertIs(is_paper(program, 2, thing, table), same(thing, paper), (row, paper, thing))

    def test_truths_for_numbers(self):
        program = one_row(8, "plain", "rest a 3")
        paper = paper_of(program, 2, prices_of())
        numbers = [number for pair in paper[2] for number in (pair[1],) + pair[0][1:]] + list(paper[1][1:])
        self.assertIn(1, numbers)
        self.assertIn(0, numbers)
        for number, truth in ((1, True), (0, False)):
            def turned(thing, number=number, truth=truth):
                if isinstance(thing, (list, tuple)):
                    return type(thing)(turned(one) for one in thing)
                return truth if same(thing, number) else thing
            self.same(turned(paper) == paper, True)
            self.assertIs(is_paper(program, 2, turned(paper), prices_of()), False)
        program = one_row(8, "plain", "times a 0/3 up")
        self.assertIs(is_paper(program, 2, ("exact", False, 0, 8), prices_of()), False)
        self.assertIs(is_paper(program, 2, ("exact", 0, False, 8), prices_of()), False)
        self.assertIs(is_paper(program, 2, ("exact", 0, 0, 8), prices_of()), True)

    def test_another_wrong_word_than_the_least(self):
        program = one_row(8, "plain", "rest a 7")
        paper = paper_of(program, 2, prices_of())
        form, word = paper[2][0]
        others = [x for x in range(256) if x // 2 ** form[1] != x // 7 and x != word]
        self.assertGreater(len(others), 10)
        for other in others:
            self.assertIs(is_paper(program, 2, (paper[0], paper[1], [(form, other)] + paper[2][1:]), prices_of()), False)

    def test_a_right_form_that_is_not_the_cheapest(self):
        # The walk goes on behind the chosen one: a dearer right one is no paper, whatever stands ahead of it.
        for signed in (False, True):
            program = one_row(8, "signed" if signed else "plain", "div a 7 cut")
            paper = paper_of(program, 2, prices_of())
            forms = signed_candidates(8, 7) if signed else candidates(8, 7)
            price = price_of_signed if signed else price_of_form
            order = sorted(forms, key=lambda form: price(form, prices_of()))
            for form in order[len(paper[2]) + 1:]:
                ahead = order[:[one.told() for one in order].index(form.told())]
                for wrong in (None, 0, 1):
                    refused = paper[2] + [(one.told(), wrong) for one in ahead[len(paper[2]):]]
                    self.assertIs(is_paper(program, 2, (paper[0], form.told(), refused), prices_of()), False)
                self.assertIs(is_paper(program, 2, (paper[0], form.told(), paper[2]), prices_of()), False)

    def test_a_wrong_form_with_all_that_stand_ahead_of_it(self):
        for width, kind, row in self.PROGRAMS:
            program = one_row(width, kind, row)
            paper = paper_of(program, 2, prices_of())
            for place in range(len(paper[2]) if len(paper) == 3 else 0):
                self.assertIs(is_paper(program, 2, (paper[0], paper[2][place][0], paper[2][:place]), prices_of()), False)

    def test_as_many_refused_ones_as_there_are_candidates_and_more(self):
        program = one_row(8, "plain", "rest a 7")
        paper = paper_of(program, 2, prices_of())
        forms = sorted(candidates(8, 7), key=lambda form: price_of_form(form, prices_of()))
        every = [(form.told(), walked(8, 7, form.numbers_in(8))) for form in forms]
        for refused in (every, every[:-1], every + every[-1:], every * 2, paper[2] * 30, [None] * len(forms), [None] * 200):
            for form in (paper[1], forms[-1].told(), None):
                self.assertIs(is_paper(program, 2, (paper[0], form, refused), prices_of()), False)

    def test_things_of_every_kind(self):
        for width, kind, row in self.PROGRAMS:
            program = one_row(width, kind, row)
            wanted = paper_of(program, 2, prices_of())
            for thing in THINGS + [("form",), ("form", (), []), ("form", None, None), ("signed", [], ()), ("form", 1, 2, 3), "form",
                                   ("exact",), ("exact", 1), ("form", ("scaled", 1, 1), [None]), ("form", wanted, [()]), Made([], []),
                                   ("form", ("shifted", 0), [()]), ("form", ("shifted", 0), [(1, 2, 3)]), {"form": 1}, program]:
                self.assertIs(is_paper(program, 2, thing, prices_of()), same(thing, wanted), thing)


class Whole(Case):
    def test_drawn_programs(self):
        source = random.Random(92)
        for many in range(80):
            drawing = Drawing(source, source.choice([4, 5, 8, 31, 32]), ("div", "rest", "part", "times", "add"))
            program = read_program(drawing.text(8))
            for table in source.sample(TABLES, 2):
                papers = made(program, table).papers
                self.same([line for line, paper in papers], sorted({line for line, paper in papers}))
                for line, paper in papers:
                    self.assertIs(is_paper(program, line, paper, table), True)
                    self.same(paper_of(program, line, table), paper)

    def test_prices_refused_ahead_of_all_else(self):
        program = one_row(8, "plain", "rest a 7")
        for thing in NO_TABLES:
            for line in (2, 3, None, [], "2"):
                self.refused(NoPrices, {"found": thing}, paper_of, program, line, thing)
                self.refused(NoPrices, {"found": thing}, is_paper, program, line, None, thing)

    def test_new_each_time(self):
        for width, kind, row in OneThingOtherwise.PROGRAMS:
            self.fresh(paper_of, one_row(width, kind, row), 2, prices_of())

    def test_what_is_handed_in_stays_as_it_was(self):
        program, table = one_row(8, "plain", "rest a 7"), prices_of()
        paper = paper_of(program, 2, table)
        kept = bare(paper)
        is_paper(program, 2, paper, table)
        self.same(bare(paper), kept)
        self.same(table, prices_of())
        paper[2].append(None)
        self.assertIs(is_paper(program, 2, paper, table), False)
        self.same(paper[2][-1], None)

    def test_within_some_steps(self):
        for d in (7, 2 ** 31 - 1, 2 ** 32 - 1, 2 ** 31 + 1):
            program = one_row(32, "plain", f"rest a {d}")
            paper = counted(paper_of, program, 2, prices_of())
            self.same(counted(is_paper, program, 2, paper, prices_of()), True)


if __name__ == "__main__":
    unittest.main()
