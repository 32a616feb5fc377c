import random
import unittest

from overwise.errors import NoPrices
from overwise.machine import check_steps, cost_of, run_steps
from overwise.maker import Made, made
from overwise.plainrun import run
from overwise.program import read_program
from overwise.source import Repeat
from overwise.steps import Turns
from tests.helper import NO_TABLES, TABLES, TWO_ALIKE, WAYS, Case, Drawing, counted, drawn_number, edge_words, prices_of

WIDTHS = (4, 5, 8, 31, 32)
# Which fields of what a row tells are names of registers that it reads.
READ_FIELDS = {
    "set": (), "copy": (2,), "sum": (3, 4), "gap": (3, 4), "low": (2, 3), "high": (2, 3), "left": (2,), "right": (2,), "slide": (2,),
    "and": (2, 3), "or": (2, 3), "unlike": (2, 3), "under": (2, 3), "pick": (2, 3, 4), "mark": (3,),
}
PUT_FIELDS = {"sum": (1, 2), "gap": (1, 2), "mark": ()}


def kinds_of(width):
    return ["plain", "signed"] + [f"point {point}" for point in sorted({1, 2, width // 2, width - 2, width - 1})]


def words_at(width):
    """All words of a small width, of a greater one those at and about the ends."""
    return range(2 ** width) if width <= 5 else edge_words(width)


def lists_in(steps):
    """All lists of rows, those within Turns too."""
    found = [steps]
    for step in steps:
        if isinstance(step, Turns):
            found += lists_in(step.steps)
    return found


def one_row(width, kind, row):
    """A program with one row behind its inputs, and with names besides that it doesn't read."""
    goals = "x y" if row.startswith("part") else "x"
    ins = [f"in {name} {kind}" for name in "ab"]
    return read_program("\n".join([f"width {width}"] + ins + [f"{goals} = {row}"] + [f"out {name}" for name in goals.split()]))


class MakerCase(Case):
    def alike(self, program, steps, inputs, others=None):
        """The rows tell the words and the marks of the plain run."""
        outs, marks = run(program, inputs)
        names = {name for name, kind in program.inputs}
        words, noted, counts = run_steps(program.width, steps, {**(others or {}), **{name: inputs[name] for name in names}})
        self.same({name: words[name] for name in outs}, outs, program.text(), inputs)
        self.same(noted, marks, program.text(), inputs)
        return counts

    def good(self, program, steps):
        """The rows are good ones, a run of them does not too many, and none reads what was not put."""
        self.assertLessEqual(check_steps(program.width, steps), 1_000_000)
        self.assertTrue(all(len(one) <= 4000 for one in lists_in(steps)))
        names = {name for name, kind in program.names()}
        self.reads_what_was_put(steps, names, {name for name, kind in program.inputs})

    def reads_what_was_put(self, steps, names, put):
        for step in steps:
            told = step.told()
            if told[0] == "turns":
                self.reads_what_was_put(step.steps, names, put)
                continue
            for place in READ_FIELDS[told[0]]:
                self.assertTrue(told[place] not in names or told[place] in put, told)
            put |= {told[place] for place in PUT_FIELDS.get(told[0], (1,))}

    def looked_at(self, width, kind, row, words, prices=None):
        program = one_row(width, kind, row)
        steps = made(program, prices or prices_of()).steps
        self.good(program, steps)
        for a in words:
            for b in words if " b" in row else [a]:
                self.alike(program, steps, {"a": a, "b": b})


class EachDeed(MakerCase):
    def test_two_words_of_any_kind(self):
        for width in WIDTHS:
            for kind in kinds_of(width):
                for deed in TWO_ALIKE:
                    self.looked_at(width, kind, f"{deed} a b", words_at(width))
                    self.looked_at(width, kind, f"{deed} a a", edge_words(width))
                    self.looked_at(width, kind, f"{deed} b a", edge_words(width))

    def test_two_plain_words(self):
        for width in WIDTHS:
            for deed in ("low", "high", "over"):
                for row in (f"{deed} a b", f"{deed} b a", f"{deed} a a"):
                    self.looked_at(width, "plain", row, words_at(width))

    def test_shifts_and_copies(self):
        for width in WIDTHS:
            for kind in kinds_of(width):
                self.looked_at(width, kind, "copy a", words_at(width))
                for k in range(width):
                    self.looked_at(width, kind, f"left a {k}", words_at(width))
                    self.looked_at(width, kind, f"right a {k}", words_at(width))

    def test_pick(self):
        for width in WIDTHS:
            for kind in kinds_of(width):
                program = read_program(f"width {width}\nin c plain\nin a {kind}\nin b {kind}\nx = pick c a b\nout x")
                steps = made(program, prices_of()).steps
                self.good(program, steps)
                for c in edge_words(width):
                    for a, b in [(0, 1), (1, 0), (5, 5), (2 ** width - 1, 2 ** (width - 1))]:
                        self.alike(program, steps, {"a": a, "b": b, "c": c})

    def test_set(self):
        for width in WIDTHS:
            for kind, figures in [("plain", "0"), ("plain", str(2 ** width - 1)), ("signed", str(-(2 ** (width - 1)))), ("point 1", "-0.5")]:
                program = read_program(f"width {width}\nx = set {kind} {figures}\nout x")
                self.alike(program, made(program, prices_of()).steps, {}, {"x": 3})

    def test_rest_and_part_of_each_small_number(self):
        for width in (4, 5):
            for number in range(1, 2 ** width):
                self.looked_at(width, "plain", f"rest a {number}", range(2 ** width))
                self.looked_at(width, "plain", f"part a {number}", range(2 ** width))

    def test_div_by_each_small_number(self):
        for width in (4, 5):
            for kind in ("plain", "signed", "point 2"):
                for number in range(1, 2 ** width if kind == "plain" else 2 ** (width - 1) + 1):
                    for way in WAYS:
                        self.looked_at(width, kind, f"div a {number} {way}", range(2 ** width))

    def test_times_each_small_fraction(self):
        for kind in ("plain", "signed", "point 3"):
            for bottom in range(1, 16 if kind == "plain" else 9):
                for top in range(bottom + 1):
                    for way in WAYS:
                        self.looked_at(4, kind, f"times a {top}/{bottom} {way}", range(16))

    def test_great_numbers(self):
        source = random.Random(90)
        for width in (8, 31, 32):
            for kind in ("plain", "signed", f"point {width - 3}"):
                most = 2 ** width - 1 if kind == "plain" else 2 ** (width - 1)
                numbers = {1, 2, 3, 7, 10, most, most - 1, most // 2} | {drawn_number(source, most) for some in range(8)}
                for number in sorted(numbers):
                    words = sorted(set(edge_words(width)) | {
                        word % 2 ** width for k in (1, 2, most // number) for word in (k * number - 1, k * number, k * number + number // 2)})
                    for way in WAYS:
                        self.looked_at(width, kind, f"div a {number} {way}", words)
                        for top in {0, 1, number - 1, number, source.randint(0, number)}:
                            self.looked_at(width, kind, f"times a {top}/{number} {way}", words)
                    if kind == "plain":
                        self.looked_at(width, kind, f"part a {number}", words)
                        self.looked_at(width, kind, f"rest a {number}", words)

    def test_mul(self):
        for width in WIDTHS:
            for kind in kinds_of(width)[2:]:
                for way in WAYS:
                    self.looked_at(width, kind, f"mul a b {way}", words_at(width))
                    self.looked_at(width, kind, f"mul a a {way}", edge_words(width))

    def test_each_form(self):
        # A size is at most H, so that a turned form of another kind is never the first right one.
        met = set()
        for table in TABLES:
            for number in (1, 2, 3, 5, 6, 7, 10, 11, 12, 14, 19, 21, 28, 60, 100, 125, 127):
                for kind, row in (("plain", "rest a"), ("signed", "div a")):
                    text = f"{row} {number}" + (" cut" if kind == "signed" else "")
                    program = one_row(8, kind, text)
                    told = made(program, table).papers[0][1][1]
                    met.add((kind, told[0]) if told[0] != "turned" else (kind, told[0], told[1][0]))
                    self.looked_at(8, kind, text, range(256) if len(met) % 5 == 0 else edge_words(8), table)
        self.same(met, {("plain", word) for word in ("shifted", "scaled", "early", "more", "wide")} | {
            ("signed", "cutting"), ("signed", "turned", "shifted"), ("signed", "turned", "scaled")})

    def test_each_way_to_multiply(self):
        met = set()
        for bottom in range(1, 128, 5):
            for top in range(0, bottom + 1, 3):
                program = one_row(8, "signed", f"times a {top}/{bottom} near")
                paper = made(program, prices_of()).papers[0][1]
                met.add(paper[0] if paper[0] != "exact" else ("exact", paper[2] != 0))
                self.looked_at(8, "signed", f"times a {top}/{bottom} near", edge_words(8))
        self.same(met, {"copy", "bits", ("exact", False), ("exact", True)})


class Goals(MakerCase):
    def test_a_goal_that_is_read_by_its_own_row(self):
        for width in (4, 8, 32):
            for kind in ("plain", "signed", "point 2"):
                rows = [f"{deed} a b" for deed in ("add", "sub", "addstop", "substop")] + ["left a 1", "right a 1", "copy a"]
                rows += [f"div a {number} {way}" for number in (1, 3, 7, 8) for way in WAYS]
                rows += [f"times a {top}/7 {way}" for top in (0, 3, 7) for way in WAYS]
                rows += [f"mul a b {way}" for way in WAYS] if kind == "point 2" else []
                rows += ["low a b", "high a b", "over a b", "rest a 7", "less a b", "same a b"] if kind == "plain" else []
                for row in rows:
                    for goal in "ab" if " b" in row else "a":
                        self.own_goal(width, f"width {width}\nin a {kind}\nin b {kind}\n{goal} = {row}\nout a\nout b")
                        same = row.replace(" b", " a")
                        self.own_goal(width, f"width {width}\nin a {kind}\nin b {kind}\n{goal} = {same}\nout a\nout b")
                for goal in "abc":
                    if goal != "c" or kind == "plain":
                        self.own_goal(width, f"width {width}\nin a {kind}\nin b {kind}\nin c plain\n{goal} = pick c a b\nout a\nout b\nout c")

    def own_goal(self, width, text):
        program = read_program(text)
        steps = made(program, prices_of()).steps
        self.good(program, steps)
        for a in edge_words(width)[::2]:
            for b in edge_words(width)[::3]:
                self.alike(program, steps, {"a": a, "b": b, "c": a % 2})

    def test_both_goals_of_part(self):
        for width in (4, 8, 32):
            for goals in ("a b", "b a", "x a", "a x", "x y"):
                program = read_program(f"width {width}\nin a plain\nin b plain\n{goals} = part a 7\n" + "\n".join(
                    f"out {name}" for name in goals.split()))
                steps = made(program, prices_of()).steps
                for a in edge_words(width):
                    self.alike(program, steps, {"a": a, "b": 3})

    def test_a_name_that_goes_out_as_it_came_in(self):
        program = read_program("width 8\nin a plain\nin b signed\nout b\nout a")
        found = made(program, prices_of())
        self.same(found.steps, [])
        self.same(found.papers, [])
        self.alike(program, found.steps, {"a": 200, "b": 100})

    def test_other_names_full_of_any_words(self):
        source = random.Random(91)
        for many in range(150):
            width = source.choice(WIDTHS)
            drawing = Drawing(source, width)
            program = read_program(drawing.text(6).replace(" = ", "x = ", 1) if many % 2 else drawing.text(6))
            steps = made(program, prices_of()).steps
            others = {name: source.randrange(2 ** width) for name, kind in program.names()}
            self.alike(program, steps, drawing.inputs(), others)


class Loops(MakerCase):
    def test_loops_within_loops(self):
        text = (
            "width 8\nin a plain\nin s signed\ni = set plain 0\none = set plain 1\nrepeat 2\nrepeat 3\ni = add i one\nrepeat 4\na = add a i\n"
            "s = div s 3 near\ns = addstop s s\nend\nb = over a i\nend\nq r = part a 7\ns = times s 5/7 up\nend\na = sub a q\n"
            "out a\nout r\nout s\nout b"
        )
        program = read_program(text)
        steps = made(program, prices_of()).steps
        self.good(program, steps)
        for a in edge_words(8):
            for s in edge_words(8):
                self.alike(program, steps, {"a": a, "s": s})

    def test_a_loop_is_done_as_often(self):
        source = random.Random(93)
        for many in range(60):
            program = read_program(Drawing(source, 8).text(10))
            self.same_loops(program.rows, made(program, prices_of()).steps)

    def same_loops(self, rows, steps):
        """The loops stand in the same order, each with its own times; only loops of just the width's turns stand besides."""
        wanted = [row for row in rows if isinstance(row, Repeat)]
        found = [step for step in steps if isinstance(step, Turns) and step.times != 8]
        self.same([step.times for step in found], [row.times for row in wanted])
        for row, step in zip(wanted, found):
            self.same_loops(row.rows, step.steps)

    def test_a_loop_done_once_and_one_of_thirty_two(self):
        for times in (1, 2, 31, 32):
            program = read_program(f"width 8\nin a signed\nrepeat {times}\na = add a a\na = copy a\nend\nout a")
            steps = made(program, prices_of()).steps
            self.same([step.times for step in steps], [times])
            for a in (1, 255, 128, 77):
                self.alike(program, steps, {"a": a})

    def test_marks_in_their_order_with_their_lines(self):
        program = read_program(
            "width 4\nin a plain\nin b plain\nin s signed\nin p point 2\nrepeat 3\nx = over a b\ny = add a a\nz = addstop s s\n"
            "w = substop b a\nv = low x a\nx = over x b\nm = mul p p near\nl = left s 1\nb = right b 1\nend\nout x"
        )
        steps = made(program, prices_of()).steps
        for a in range(16):
            for b in (0, 1, 2, 9):
                self.alike(program, steps, {"a": a, "b": b, "s": a, "p": 15 - a})
        marks = run_steps(4, steps, {"a": 9, "b": 1, "s": 7, "p": 7})[1]
        first = [(7, "round"), (8, "stop"), (9, "stop"), (10, "round"), (12, "stop"), (13, "round")]
        behind = [(6, "nothing"), (7, "round"), (8, "stop"), (9, "stop"), (10, "round"), (11, "nothing"), (12, "stop"), (13, "round")]
        self.same(marks, first + behind + behind)

    def test_six_hundred_rows(self):
        for row in ("a = times a 1234567891/2147483647 near", "a = mul b a near", "a = div a 7 near", "a = div a 7 cut"):
            program = read_program(f"width 32\nin a point 30\nin b point 30\nrepeat 30\nrepeat 20\n{row}\nend\nend\nout a")
            steps = made(program, prices_of()).steps
            self.good(program, steps)
            self.alike(program, steps, {"a": 2 ** 31, "b": 2 ** 30})
        program = read_program("width 32\nin a plain\nin b plain\nrepeat 30\nrepeat 20\na = over a b\nend\nend\nout a")
        steps = made(program, prices_of()).steps
        self.good(program, steps)
        self.alike(program, steps, {"a": 2 ** 32 - 1, "b": 0})

    def test_sixty_lines_within_some_millions_of_steps(self):
        rows = [f"x = div a {2 ** 31 - 1 - 2 * k} cut" for k in range(57)]
        program = read_program("\n".join(["width 32", "in a signed"] + rows + ["out x"]))
        steps = counted(made, program, prices_of(), most=8_000_000).steps
        self.good(program, steps)
        self.alike(program, steps, {"a": 2 ** 31})
        rows = [f"x = times a {2 ** 30 + k * k}/{2 ** 31 - 1 - 2 * k} near" for k in range(57)]
        program = read_program("\n".join(["width 32", "in a signed"] + rows + ["out x"]))
        self.good(program, counted(made, program, prices_of(), most=8_000_000).steps)


class Drawn(MakerCase):
    def test_drawn_programs(self):
        source = random.Random(94)
        for many in range(400):
            width = source.choice(WIDTHS + (4, 6, 7, 16))
            drawing = Drawing(source, width)
            program = read_program(drawing.text(12))
            found = made(program, source.choice(TABLES))
            self.good(program, found.steps)
            for some in range(4):
                self.alike(program, found.steps, drawing.inputs())

    def test_counts_and_cost_ahead_of_the_run(self):
        source = random.Random(95)
        for many in range(60):
            drawing = Drawing(source, source.choice(WIDTHS))
            program = read_program(drawing.text(8))
            table = source.choice(TABLES)
            steps = made(program, table).steps
            counts = [self.alike(program, steps, drawing.inputs()) for some in range(3)]
            self.same(counts[1], counts[0])
            self.same(counts[2], counts[0])
            self.same(cost_of(program.width, steps, table), sum(table[word] * counts[0][word] for word in table))

    def test_two_tables_of_prices(self):
        source = random.Random(96)
        for many in range(60):
            drawing = Drawing(source, source.choice(WIDTHS), ("div", "rest", "part", "times", "add", "sub"))
            program = read_program(drawing.text(8))
            inputs = drawing.inputs()
            for table in source.sample(TABLES, 4):
                self.alike(program, made(program, table).steps, inputs)

    def test_prices_bear_on_the_rows(self):
        program = one_row(8, "plain", "rest a 7")
        told = {str([step.told() for step in made(program, table).steps]) for table in TABLES}
        self.assertGreater(len(told), 1)


class Told(MakerCase):
    TEXT = "width 8\nin a signed\nin b plain\nrepeat 3\na = div a 7 cut\nq r = part b 10\nend\nb = times b 2/3 near\nout a\nout q"

    def told(self, found):
        return ([step.told() for step in found.steps], found.papers)

    def test_a_made(self):
        found = made(read_program(self.TEXT), prices_of())
        self.assertIs(type(found), Made)
        self.same(sorted(vars(found)), ["papers", "steps"])
        self.assertIs(type(found.steps), list)
        self.assertIs(type(found.papers), list)

    def test_prices_that_are_none(self):
        program = read_program(self.TEXT)
        for thing in NO_TABLES:
            self.refused(NoPrices, {"found": thing}, made, program, thing)
            self.refused(NoPrices, {"found": thing}, made, read_program("width 4\nin a plain\nout a"), thing)

    def test_what_else_is_in_the_prices_is_not_looked_at(self):
        program = read_program(self.TEXT)
        self.same(self.told(made(program, {"x": None, 3: [4], **prices_of()})), self.told(made(program, prices_of())))

    def test_equal_each_time_and_nothing_in_common(self):
        one = made(read_program(self.TEXT), prices_of())
        other = made(read_program(self.TEXT), prices_of())
        self.same(self.told(one), self.told(other))
        kept = str(self.told(other))
        one.steps[0].steps.clear()
        one.papers[0][1][2].clear()
        one.papers.clear()
        one.steps.clear()
        self.same(str(self.told(other)), kept)
        self.same(str(self.told(made(read_program(self.TEXT), prices_of()))), kept)

    def test_what_is_handed_in_stays_as_it_was(self):
        program, prices = read_program(self.TEXT), prices_of(high=7)
        kept = dict(prices)
        found = self.told(made(program, prices))
        self.same(prices, kept)
        self.same(program.text(), self.TEXT)
        prices["high"] = 1000
        self.same(found, self.told(made(program, kept)))
        self.same(program.rows[0].rows[1].numbers, [10])


if __name__ == "__main__":
    unittest.main()
