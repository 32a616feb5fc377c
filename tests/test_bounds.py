import math
import random
import unittest
from fractions import Fraction

from overwise.bounds import bound_of, bounds
from overwise.errors import TooMuch, Unknown
from overwise.exactrun import exact_trace
from overwise.kinds import Plain
from overwise.plainrun import run, trace
from overwise.program import read_program
from tests.helper import ALL_DEEDS, NO_NUMBERS, WAYS, Case, Drawing, counted
from tests.test_exactrun import loops_undone, pair, value

NO_PART = ("set", "low", "high", "rest", "over", "part", "less", "same")
MISS = {"down": Fraction(1), "up": Fraction(1), "cut": Fraction(1), "near": Fraction(1, 2)}


def second_bounds(text, kinds):
    """The bounds by Python's own fractions."""
    lines = text.split("\n")
    width = int(lines[0].split(" ")[1])
    known = {line.split(" ")[1]: Fraction(0) for line in lines if line.startswith("in ")}
    told = []
    for line, parts in loops_undone(lines):
        middle = parts.index("=")
        deed, things, goals = parts[middle + 1], parts[middle + 2:], parts[:middle]
        kind = kinds[goals[0]]
        point = int(kind.split(" ")[1]) if kind.startswith("point") else 0
        own = Fraction(0)
        if deed in ("div", "times", "mul"):
            own = MISS[things[-1]] / 2 ** point
        if deed == "right":
            own = Fraction(2 ** int(things[1]) - 1, 2 ** int(things[1])) / 2 ** point
        reads = things[1:] if deed == "pick" else [thing for thing in things if thing in known]
        if deed in NO_PART:
            bound = Fraction(0)
        elif any(known[name] is None for name in reads):
            bound = None
        else:
            e, f, big = known[reads[0]], known[reads[-1]], Fraction(2) ** (width - 1 - point)
            bound = {
                "copy": lambda: e, "add": lambda: e + f, "addstop": lambda: e + f, "sub": lambda: e + f, "substop": lambda: e + f,
                "left": lambda: e * 2 ** int(things[1]), "right": lambda: e / 2 ** int(things[1]) + own,
                "div": lambda: e / int(things[1]) + own, "times": lambda: e * Fraction(things[1]) + own,
                "mul": lambda: big * e + big * f + e * f + own, "pick": lambda: max(e, f),
            }[deed]()
            bound = Fraction(math.ceil(bound * 2 ** 64), 2 ** 64)
            bound = None if bound > 2 ** 64 else bound
        for goal in goals:
            known[goal] = bound
            told.append((line, goal, pair(own), None if bound is None else pair(bound)))
    return told, known


class BoundCase(Case):
    def held(self, text, kinds):
        program = read_program(text)
        told, known = second_bounds(text, kinds)
        self.same(bounds(program), told, text)
        for name in known:
            self.same(bound_of(program, name), None if known[name] is None else pair(known[name]), text, name)
        return told

    def last(self, rows, kind="plain", width=32):
        """The last tuple of a program of rows on a and b, by hand."""
        text = "\n".join([f"width {width}", f"in a {kind}", f"in b {kind}", "in c plain"] + rows + ["out a"])
        return bounds(read_program(text))[-1]


class EachDeed(BoundCase):
    def test_what_each_way_brings_itself(self):
        for width in (4, 8, 32):
            for kind in ["plain", "signed"] + [f"point {point}" for point in range(1, width)]:
                point = int(kind.split(" ")[1]) if kind.startswith("point") else 0
                for way in WAYS:
                    own = pair(MISS[way] / 2 ** point)
                    rows = [f"a = div a 3 {way}", f"a = div a 1 {way}", f"a = times a 2/3 {way}", f"a = times a 0/1 {way}", f"a = times a 5/5 {way}"]
                    rows += [f"a = mul a b {way}"] if point else []
                    for row in rows:
                        self.same(self.last([row], kind, width), (4, "a", own, own), row)
                for k in range(width):
                    own = pair(Fraction(2 ** k - 1, 2 ** k) / 2 ** point)
                    self.same(self.last([f"a = right a {k}"], kind, width), (4, "a", own, own))

    def test_what_brings_nothing_itself(self):
        for row in ["a = copy b", "a = add a b", "a = sub a b", "a = addstop a b", "a = substop a b", "a = left a 5", "a = pick c a b",
                    "a = set plain 3", "a = low a b", "a = high a b", "a = rest a 7", "a = over a b", "a = less a b", "a = same a b"]:
            self.same(self.last([row]), (4, "a", (0, 1), (0, 1)), row)
        self.same(self.last(["a b = part a 7"]), (4, "b", (0, 1), (0, 1)))
        # Raised or not, what a carried-on bound meets there brings nothing either.
        self.same(self.last(["a = div a 1 up", "a = left a 2"]), (5, "a", (0, 1), (4, 1)))

    def test_what_is_carried_on(self):
        ahead = ["a = div a 1 up", "b = div b 1 near", "b = add b b", "b = add b b"]
        # Here the bound of a is 1 and that of b 2.
        for row, bound in [
            ("x = copy b", (2, 1)), ("x = add a b", (3, 1)), ("x = sub b a", (3, 1)), ("x = addstop b b", (4, 1)), ("x = substop a a", (2, 1)),
            ("x = left b 5", (64, 1)), ("x = right b 2", (5, 4)), ("x = div b 4 near", (1, 1)), ("x = div b 4 down", (3, 2)),
            ("x = times b 3/4 up", (5, 2)), ("x = times b 0/4 up", (1, 1)), ("x = pick c a b", (2, 1)), ("x = pick c b a", (2, 1)),
            ("x = pick a c c", (0, 1)), ("x = pick b a c", (1, 1)), ("x = low a b", (0, 1)), ("x = high a b", (0, 1)), ("x = rest b 7", (0, 1)),
            ("x = over a b", (0, 1)), ("x = less a b", (0, 1)), ("x = same a b", (0, 1)), ("x = set plain 1", (0, 1)), ("x y = part b 3", (0, 1)),
        ]:
            self.same(self.last(ahead + [row])[3], bound, row)

    def test_products(self):
        ahead = ["a = div a 1 up", "b = div b 1 near"]
        for width, point in [(8, 1), (8, 4), (8, 7), (32, 16), (32, 31), (4, 1)]:
            e, f, big = Fraction(1, 2 ** point), Fraction(1, 2 ** (point + 1)), Fraction(2) ** (width - 1 - point)
            for way in WAYS:
                bound = big * e + big * f + e * f + MISS[way] / 2 ** point
                self.same(self.last(ahead + [f"a = mul a b {way}"], f"point {point}", width)[3], pair(bound))
                self.same(self.last(ahead + [f"a = mul b a {way}"], f"point {point}", width)[3], pair(bound))
                bound = 2 * big * e + e * e + MISS[way] / 2 ** point
                self.same(self.last(ahead + [f"a = mul a a {way}"], f"point {point}", width)[3], pair(bound))

    def test_raised_to_sixty_four_places(self):
        ahead = ["a = div a 1 up"]
        third = Fraction(-(-2 ** 64 // 3), 2 ** 64)
        self.same(self.last(ahead + ["a = div a 3 up"]), (5, "a", (1, 1), pair(1 + third)))
        self.same(self.last(ahead + ["a = times a 2/3 near"])[3], pair(Fraction(math.ceil(Fraction(7, 6) * 2 ** 64), 2 ** 64)))
        # A part that is a multiple of 2 ** -64 already stays, and one beneath is raised to it.
        shifts = ["p = div p 1 up", "p = mul p p near"]
        text = "\n".join(["width 32", "in p point 31"] + shifts + ["out p"])
        e = Fraction(1, 2 ** 31)
        self.same(bounds(read_program(text))[-1][3], pair(2 * e + e * e + Fraction(1, 2 ** 32)))
        text = text.replace("p = div p 1 up", "p = div p 1 up\np = div p 2147483647 near\np = div p 2147483647 near")
        self.held(text, {"p": "point 31"})


class NoBound(BoundCase):
    GREAT = ["a = div a 1 up", "a = left a 31", "a = left a 31"]

    def test_just_at_the_bound_and_above_it(self):
        self.same(self.last(self.GREAT)[3], (2 ** 62, 1))
        self.same(self.last(self.GREAT + ["a = left a 2"])[3], (2 ** 64, 1))
        self.same(self.last(self.GREAT + ["a = left a 3"])[3], None)
        self.same(self.last(self.GREAT + ["a = left a 2", "a = add a a"])[3], None)
        self.same(self.last(self.GREAT + ["a = left a 2", "b = div b 1 near", "a = add a b"])[3], None)
        self.same(self.last(self.GREAT + ["a = left a 2", "b = right b 0", "a = add a b"])[3], (2 ** 64, 1))
        self.same(self.last(self.GREAT + ["a = left a 2", "a = right a 0"])[3], (2 ** 64, 1))
        self.same(self.last(self.GREAT + ["a = left a 2", "a = times a 1/1 near"])[3], None)
        self.same(self.last(self.GREAT + ["a = left a 2", "a = div a 2 down"])[3], (2 ** 63 + 1, 1))

    def test_what_reads_one_without_a_bound(self):
        ahead = self.GREAT + ["a = left a 31"]
        for row, own, bound in [
            ("x = copy a", (0, 1), None), ("x = add a b", (0, 1), None), ("x = sub b a", (0, 1), None), ("x = addstop a a", (0, 1), None),
            ("x = substop b a", (0, 1), None), ("x = left a 0", (0, 1), None), ("x = right a 31", (2 ** 31 - 1, 2 ** 31), None),
            ("x = div a 4294967295 near", (1, 2), None), ("x = times a 0/1 up", (1, 1), None), ("x = pick c a b", (0, 1), None),
            ("x = pick c b a", (0, 1), None), ("x = pick a b b", (0, 1), (0, 1)), ("x = low a a", (0, 1), (0, 1)), ("x = high a b", (0, 1), (0, 1)),
            ("x = rest a 7", (0, 1), (0, 1)), ("x = over b a", (0, 1), (0, 1)), ("x = less a b", (0, 1), (0, 1)), ("x = same a a", (0, 1), (0, 1)),
            ("x y = part a 7", (0, 1), (0, 1)), ("x = set plain 7", (0, 1), (0, 1)),
        ]:
            found = self.last(ahead + [row])
            self.same(found[2:], (own, bound), row)
            program = read_program("\n".join(["width 32", "in a plain", "in b plain", "in c plain"] + ahead + [row, "out a"]))
            self.same(bound_of(program, "a"), None)
            self.same(bound_of(program, "x"), bound)

    def test_products_without_a_bound(self):
        rows = ["a = div a 1 up", "a = left a 31", "a = left a 31", "a = left a 31"]
        self.same(self.last(rows, "point 31")[3], (2 ** 62, 1))
        self.same(self.last(rows + ["a = left a 3"], "point 31")[3], None)
        self.same(self.last(rows + ["b = mul a a near"], "point 31")[3], None)
        for row in ("b = mul a b near", "b = mul b a near", "b = mul a a near"):
            self.same(self.last(rows + ["a = left a 3", row], "point 31")[3], None)

    def test_a_bound_comes_back_when_the_name_is_put_anew(self):
        rows = self.GREAT + ["a = left a 31", "a = rest a 7", "a = div a 2 near"]
        self.same(self.last(rows)[3], (1, 2))


class Programs(BoundCase):
    def test_loops_each_putting(self):
        text = "width 8\nin a plain\nrepeat 3\na = div a 2 up\nrepeat 2\na b = part a 7\nend\na = div a 3 near\nc = add a b\nend\nout c"
        told = self.held(text, {"a": "plain", "b": "plain", "c": "plain"})
        self.same(len(told), 3 * (1 + 2 * 2 + 2))
        self.same([line for line, name, own, bound in told[:7]], [3, 5, 5, 5, 5, 7, 8])
        program = read_program("width 8\nin a plain\nrepeat 4\na = div a 2 up\nend\nout a")
        self.same(bounds(program), [(3, "a", (1, 1), bound) for bound in ((1, 1), (3, 2), (7, 4), (15, 8))])
        self.same(bound_of(program, "a"), (15, 8))

    def test_in_the_order_of_the_trace(self):
        source = random.Random(103)
        for many in range(100):
            drawing = Drawing(source, source.choice([4, 8, 32]))
            program = read_program(drawing.text(8))
            self.same([(line, name) for line, name, own, bound in bounds(program)],
                      [(line, name) for line, name, bits in trace(program, drawing.inputs())])

    def test_drawn_programs(self):
        source = random.Random(104)
        met = {None: 0}
        for many in range(400):
            drawing = Drawing(source, source.choice([4, 5, 8, 31, 32]), ALL_DEEDS + ("div", "times", "left", "right", "mul") * 2)
            for line, name, own, bound in self.held(drawing.text(12), drawing.kinds):
                met[None if bound is None else "some"] = met.get(None if bound is None else "some", 0) + 1
        self.assertGreater(met[None], 50)

    def test_no_rows(self):
        self.same(bounds(read_program("width 8\nin a plain\nout a")), [])

    def test_new_each_time(self):
        program = read_program("width 8\nin a plain\nrepeat 3\na = div a 3 up\nend\nout a")
        self.fresh(bounds, program)
        self.same(program.text(), "width 8\nin a plain\nrepeat 3\na = div a 3 up\nend\nout a")

    def test_six_hundred_rows(self):
        program = read_program("width 32\nin a point 16\nrepeat 30\nrepeat 20\na = times a 77777/99999 near\nend\nend\nout a")
        self.same(len(counted(bounds, program)), 600)


class Names(BoundCase):
    TEXT = "width 8\nin a plain\nin b plain\nb = div b 2 up\nc = set plain 3\nb = div b 2 up\nd = copy b\nb = div b 2 up\nd e = part d 3\nout b"

    def test_each_name(self):
        program = read_program(self.TEXT)
        for name, bound in [("a", (0, 1)), ("b", (7, 4)), ("c", (0, 1)), ("d", (0, 1)), ("e", (0, 1))]:
            self.same(bound_of(program, name), bound)

    def test_things_that_are_no_names(self):
        program = read_program(self.TEXT)
        for thing in NO_NUMBERS + [0, 1, -1, "x", "ab", "A", "a ", " a", "width", "plain", ("a",), ["a"], {"a": 1}, Plain(8), program, 10 ** 39]:
            self.refused(Unknown, {"line": -1, "name": thing}, bound_of, program, thing)


class Held(BoundCase):
    def test_no_value_lies_farther_off(self):
        # Runs without a mark round or stop, putting by putting.
        source = random.Random(106)
        seen, far, tight = 0, 0, 0
        deeds = ("div", "times", "right", "mul", "add", "sub", "copy", "pick", "less", "same", "rest", "part", "high", "over", "left", "set")
        for many in range(1500):
            width = source.choice([4, 5, 8, 16, 32])
            drawing = Drawing(source, width, deeds + ("div", "times", "right", "mul") * 2)
            program = read_program(drawing.text(8))
            told = bounds(program)
            for some in range(3):
                inputs = {name: source.choice([0, 1, 2, 3, 2 ** width // 9, source.randrange(2 ** width)]) for name in drawing.kinds}
                try:
                    exact = exact_trace(program, inputs)
                except TooMuch:
                    continue
                if exact is None:
                    continue
                for (line, name, bits), (found, other, fraction), (place, third, own, bound) in zip(trace(program, inputs), exact, told):
                    self.same((line, name), (found, other))
                    self.same((line, name), (place, third))
                    gap = abs(value(width, drawing.kinds[name], bits) - Fraction(*fraction))
                    seen += 1
                    far += gap > 0
                    if bound is not None:
                        self.assertLessEqual(gap, Fraction(*bound), (program.text(), inputs, line))
                        tight += gap > 0 and 2 * gap >= Fraction(*bound)
        self.assertGreater(seen, 4000)
        self.assertGreater(far, 1000)
        self.assertGreater(tight, 500)

    def test_every_word_of_a_small_program(self):
        for kind in ("plain", "signed", "point 2"):
            for way in WAYS:
                rows = [f"x = div a 3 {way}", "y = right x 1", f"z = times y 2/3 {way}", "c = less a x", "w = pick c x z"]
                rows += [f"w = mul w z {way}"] if kind == "point 2" else []
                program = read_program("\n".join(["width 5", f"in a {kind}"] + rows + ["out w"]))
                for a in range(32):
                    exact = exact_trace(program, {"a": a})
                    self.same(run(program, {"a": a})[1], [])
                    for (line, name, bits), (found, other, fraction), put in zip(trace(program, {"a": a}), exact, bounds(program)):
                        gap = abs(value(5, "plain" if name == "c" else kind, bits) - Fraction(*fraction))
                        self.assertLessEqual(gap, Fraction(*put[3]))


if __name__ == "__main__":
    unittest.main()
