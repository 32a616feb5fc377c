import random
import unittest
from fractions import Fraction

from overwise.errors import NoInput, TooMuch
from overwise.exactrun import exact_run, exact_trace
from overwise.plainrun import run, trace
from overwise.program import read_program
from tests.helper import ALL_DEEDS, NO_NUMBERS, WAYS, Case, Drawing, counted

AS_PUT = ("set", "low", "high", "rest", "over", "part", "less", "same")


def value(width, kind, bits):
    if kind == "plain":
        return Fraction(bits)
    count = bits - 2 ** width if bits >= 2 ** (width - 1) else bits
    return Fraction(count, 2 ** int(kind.split(" ")[1])) if kind != "signed" else Fraction(count)


def pair(one):
    return (one.numerator, one.denominator)


def loops_undone(lines):
    """The rows of a text in the order in which a run does them, as pairs of their line's number and their words."""
    def block(place):
        found = []
        while place < len(lines):
            words = lines[place].split(" ")
            if words[0] == "repeat":
                inner, behind = block(place + 1)
                found += inner * int(words[1])
                place = behind
            elif words == ["end"]:
                return found, place + 1
            else:
                if "=" in words:
                    found.append((place, words))
                place += 1
        return found, place
    return block(0)[0]


def second_run(text, kinds, inputs):
    """The exact trace by Python's own fractions beside the plain trace, None where there is a mark round or stop."""
    program = read_program(text)
    width = program.width
    if any(mark in ("round", "stop") for line, mark in run(program, inputs)[1]):
        return None
    plain = trace(program, inputs)
    words = dict(inputs)
    exact = {name: value(width, kinds[name], inputs[name]) for name in inputs}
    told = []
    for line, parts in loops_undone(text.split("\n")):
        middle = parts.index("=")
        deed, things, goals = parts[middle + 1], parts[middle + 2:], parts[:middle]
        puts, plain = plain[:len(goals)], plain[len(goals):]
        x, y = exact.get(things[0]), exact.get(things[1]) if len(things) > 1 else None
        if deed in AS_PUT:
            new = [value(width, kinds[name], bits) for found, name, bits in puts]
        else:
            new = [{
                "copy": lambda: x, "add": lambda: x + y, "addstop": lambda: x + y, "sub": lambda: x - y, "substop": lambda: x - y,
                "mul": lambda: x * y, "div": lambda: x / int(things[1]), "times": lambda: x * Fraction(things[1]),
                "left": lambda: x * 2 ** int(things[1]), "right": lambda: x / 2 ** int(things[1]),
                "pick": lambda: exact[things[1] if words[things[0]] else things[2]],
            }[deed]()]
        for goal, (found, name, bits), one in zip(goals, puts, new):
            words[goal], exact[goal] = bits, one
            told.append((line, goal, pair(one)))
            if abs(one.numerator) >= 2 ** 2000 or one.denominator >= 2 ** 2000:
                return line
    return told


class ExactCase(Case):
    def held(self, text, kinds, inputs):
        """Both answers are those of the second run."""
        program = read_program(text)
        wanted = second_run(text, kinds, inputs)
        if isinstance(wanted, int):
            self.refused(TooMuch, {"line": wanted}, exact_run, program, inputs)
            self.refused(TooMuch, {"line": wanted}, exact_trace, program, inputs)
            return wanted
        self.same(exact_trace(program, inputs), wanted, text, inputs)
        if wanted is not None:
            last = {name: pair(value(program.width, kinds[name], inputs[name])) for name in inputs}
            last.update({name: one for line, name, one in wanted})
            wanted = {name: last[name] for name in program.outs}
        self.same(exact_run(program, inputs), wanted, text, inputs)
        return wanted


class Deeds(ExactCase):
    def row(self, width, kind, row, words, others=None):
        goals = "x y" if row.startswith("part") else "x"
        text = f"width {width}\nin a {kind}\nin b {kind}\nin c plain\n{goals} = {row}\nout x\nout a"
        kinds = {"a": kind, "b": kind, "c": "plain", "x": "plain" if row.split()[0] in ("less", "same") else kind, "y": "plain"}
        if row.startswith("set"):
            kinds["x"] = " ".join(row.split(" ")[1:-1])
        told = 0
        for a in words:
            for b in others or words:
                told += self.held(text, kinds, {"a": a, "b": b, "c": a % 2}) is not None
        self.assertGreater(told, 0, row)

    def test_each_deed(self):
        some = [0, 1, 2, 3, 5, 7, 8, 9, 15, 100, 127, 128, 200, 254, 255]
        for kind in ("plain", "signed", "point 3", "point 7"):
            for row in ["copy a", "pick c a b", "add a b", "sub a b", "addstop a b", "substop a b", "less a b", "same a b", "left a 0",
                        "left a 1", "left a 7", "right a 0", "right a 1", "right a 7"]:
                self.row(8, kind, row, some)
            for way in WAYS:
                for row in ["div a 1", "div a 7", "div a 128", "times a 0/1", "times a 2/6", "times a 127/128", "times a 5/5"]:
                    self.row(8, kind, f"{row} {way}", some, [0])
        for row in ["low a b", "high a b", "over a b", "rest a 7", "part a 10"]:
            self.row(8, "plain", row, some)
        for point in (1, 4, 7):
            for way in WAYS:
                self.row(8, f"point {point}", f"mul a b {way}", some)
        for row in ["set plain 255", "set signed -128", "set point 3 -2.125"]:
            self.row(8, "plain", row, [0], [0])

    def test_told_by_hand(self):
        text = "width 8\nin a plain\nb = div a 10 down\nc = left b 2\nd = sub a c\ne = high a c\nq r = part a 7\nout d\nout e\nout r"
        program = read_program(text)
        self.same(exact_trace(program, {"a": 123}), [
            (2, "b", (123, 10)), (3, "c", (246, 5)), (4, "d", (369, 5)), (5, "e", (23, 1)), (6, "q", (17, 1)), (6, "r", (4, 1))])
        self.same(exact_run(program, {"a": 123}), {"d": (369, 5), "e": (23, 1), "r": (4, 1)})
        self.same(list(exact_run(program, {"a": 123})), ["d", "e", "r"])
        program = read_program("width 8\nin p point 4\nq = mul p p near\nq = mul q p near\nout q")
        self.same(exact_run(program, {"p": 255}), {"q": (-1, 4096)})
        self.same(exact_run(program, {"p": 24}), {"q": (27, 8)})

    def test_the_plain_run_picks(self):
        # By the plain run c is 0, though exactly it is not.
        text = "width 8\nin a plain\nin b plain\nc = div a 4 down\nx = pick c a b\nl = less c b\nm = same a a\nout x\nout l\nout m"
        program = read_program(text)
        self.same(exact_run(program, {"a": 3, "b": 100}), {"x": (100, 1), "l": (1, 1), "m": (1, 1)})
        self.same(exact_run(program, {"a": 4, "b": 100}), {"x": (4, 1), "l": (1, 1), "m": (1, 1)})

    def test_what_a_goal_was_ahead_of_its_row(self):
        text = "width 8\nin a plain\na b = part a 10\na = pick a b a\nb = sub b a\nb = add b b\nout a\nout b"
        kinds = {"a": "plain", "b": "plain"}
        for a in range(256):
            self.held(text, kinds, {"a": a})
        self.held("width 8\nin a plain\na = div a 2 up\na = pick a a a\na = add a a\nout a", kinds, {"a": 3})

    def test_no_rows(self):
        program = read_program("width 8\nin a signed\nin p point 3\nout p\nout a")
        self.same(exact_run(program, {"a": 255, "p": 255}), {"p": (-1, 8), "a": (-1, 1)})
        self.same(exact_trace(program, {"a": 255, "p": 255}), [])

    def test_loops(self):
        text = "width 16\nin a plain\nrepeat 3\na = div a 2 up\nrepeat 2\na = div a 3 up\nb = add a a\nend\nend\nout b\nout a"
        for a in (0, 1, 5, 1000, 65535):
            self.held(text, {"a": "plain", "b": "plain"}, {"a": a})

    def test_drawn_programs(self):
        source = random.Random(100)
        told = 0
        for many in range(400):
            drawing = Drawing(source, source.choice([4, 8, 16, 32]), ALL_DEEDS + ("div", "times", "right", "rest", "copy", "pick") * 3)
            text = drawing.text(10)
            kinds = drawing.kinds
            for some in range(3):
                inputs = {name: source.choice([0, 1, 2, 5, drawing.word()]) for name in kinds}
                told += self.held(text, kinds, inputs) is not None
        self.assertGreater(told, 200)


class Refusals(ExactCase):
    HALVED = "width 32\nin a plain\nrepeat 32\na = right a 31\nend\nrepeat 31\na = right a 31\nend\na = right a {}\nb = copy a\n{}out b"

    def test_inputs_first(self):
        program = read_program("width 8\nin b plain\nin a plain\nx = add a b\nout x")
        for thing in NO_NUMBERS + [-1, 256, 10 ** 39]:
            for call in (exact_run, exact_trace):
                self.refused(NoInput, {"name": "b"}, call, program, {"b": thing, "a": 255})
                self.refused(NoInput, {"name": "a"}, call, program, {"b": 255, "a": thing, "c": 3})
                self.refused(NoInput, {"name": "b"}, call, program, {"b": thing, "a": thing})
        for call in (exact_run, exact_trace):
            self.refused(NoInput, {"name": "b"}, call, program, {})
            self.refused(NoInput, {"name": "a"}, call, program, {"b": 1, "A": 2})

    def test_none_where_it_went_round_or_stopped(self):
        for row, kind, a in [("add a a", "plain", 128), ("sub b a", "plain", 1), ("left a 1", "signed", 64), ("low a a", "plain", 16),
                             ("addstop a a", "signed", 64), ("substop b a", "plain", 1), ("mul a a near", "point 1", 127)]:
            text = f"width 8\nin a {kind}\nin b {kind}\nc = copy a\nx = {row}\nd = copy c\nout d"
            program = read_program(text)
            self.same(exact_run(program, {"a": a, "b": 0}), None, row)
            self.same(exact_trace(program, {"a": a, "b": 0}), None, row)
            self.assertIsNotNone(exact_run(program, {"a": 0, "b": 0}))

    def test_nothing_to_divide_by_is_no_reason(self):
        program = read_program("width 8\nin a plain\nin b plain\nx = over a b\nout x")
        self.same(exact_run(program, {"a": 7, "b": 0}), {"x": (255, 1)})
        self.same(exact_trace(program, {"a": 7, "b": 0}), [(3, "x", (255, 1))])

    def test_a_bottom_at_the_bound(self):
        kinds = {"a": "plain", "b": "plain"}
        # Behind the loops the bottom is 2 ** 1953.
        for k in (0, 1, 30, 31):
            self.assertIsInstance(self.held(self.HALVED.format(k, ""), kinds, {"a": 1}), dict)
        for behind, line in [("b = right b 15\n", None), ("b = right b 16\n", 10), ("b = right b 17\n", 10)]:
            found = self.held(self.HALVED.format(31, behind), kinds, {"a": 1})
            self.assertTrue(found == line or (line is None and found == {"b": (1, 2 ** 1999)}))
        self.same(self.held(self.HALVED.format(31, "b = right b 14\nb = div b 3 down\n"), kinds, {"a": 1}), {"b": (1, 3 * 2 ** 1998)})
        self.same(self.held(self.HALVED.format(31, "b = right b 15\nb = div b 3 down\n"), kinds, {"a": 1}), 11)
        # In lowest terms it lies below.
        self.same(self.held(self.HALVED.format(31, "b = right b 16\n"), kinds, {"a": 2}), {"b": (1, 2 ** 1999)})
        self.same(self.held(self.HALVED.format(31, "b = right b 31\n"), kinds, {"a": 0}), {"b": (0, 1)})

    def test_a_top_at_the_bound(self):
        # A word that was rounded to 0 stays 0, and its fraction grows.
        grown = "width 32\nin a signed\na = div a 2 cut\none = left a 1\nrepeat 2\nrepeat 32\na = left a 31\nend\nend\na = right a 15\n"
        kinds = {"a": "signed", "b": "signed", "one": "signed"}
        # Now it is 2 ** 1968 times what came in.
        for top, sign in ((1, 1), (2 ** 32 - 1, -1)):
            text = grown + "a = left a 31\nb = sub a one\nb = add a b\nout b"
            self.same(self.held(text, kinds, {"a": top}), {"b": (sign * (2 ** 2000 - 1), 1)})
            self.same(self.held(text.replace("out b", "b = add b one\nout b"), kinds, {"a": top}), 13)
            self.same(self.held(text.replace("sub a one", "copy a"), kinds, {"a": top}), 12)
            self.same(self.held(grown + "a = left a 30\na = left a 1\na = left a 1\nout a", kinds, {"a": top}), 12)

    def test_none_comes_ahead_of_too_much(self):
        text = self.HALVED.format(31, "b = right b 31\n").replace("out b", "c = set plain 4294967295\nc = add c c\nout b")
        self.same(self.held(text, {"a": "plain", "b": "plain", "c": "plain"}, {"a": 1}), None)

    def test_input_comes_ahead_of_too_much(self):
        program = read_program(self.HALVED.format(31, "b = right b 31\n"))
        self.refused(NoInput, {"name": "a"}, exact_run, program, {"a": 2 ** 32})
        self.refused(TooMuch, {"line": 10}, exact_run, program, {"a": 1})

    def test_the_first_line_that_is_too_much(self):
        text = "width 32\nin p point 31\nq = set plain 1\nrepeat 12\np = mul p p near\nend\np = mul p p near\nout p"
        self.same(self.held(text, {"p": "point 31", "q": "plain"}, {"p": 3}), 4)


class Told(ExactCase):
    TEXT = "width 8\nin a plain\nrepeat 3\na = div a 2 up\nq r = part a 7\nend\nout a\nout q"

    def test_new_each_time(self):
        program = read_program(self.TEXT)
        self.fresh(exact_run, program, {"a": 100})
        self.fresh(exact_trace, program, {"a": 100})

    def test_what_is_handed_in_stays_as_it_was(self):
        program, inputs = read_program(self.TEXT), {"a": 100, "q": 7, 3: [4]}
        found = exact_run(program, inputs)
        exact_trace(program, inputs)
        self.same(inputs, {"a": 100, "q": 7, 3: [4]})
        found["a"] = None
        self.same(exact_run(program, inputs)["a"], (25, 2))
        self.same(program.text(), self.TEXT)
        self.same(program.rows[0].rows[1].numbers, [7])

    def test_six_hundred_rows(self):
        text = ("width 32\nin a point 31\nrepeat 32\na = div a 2147483647 near\nend\nrepeat 32\na = div a 2147483629 near\nend\nb = copy a\n"
                "a = div a 7 near\nrepeat 26\nrepeat 20\nc = add a b\nend\nend\nout c")
        found = counted(exact_run, read_program(text), {"a": 2 ** 30}, most=4_000_000)
        self.same(found["c"], pair(Fraction(4, 7 * 2147483647 ** 32 * 2147483629 ** 32)))


if __name__ == "__main__":
    unittest.main()
