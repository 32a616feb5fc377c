import math
import random
import unittest
from fractions import Fraction

from overwise.errors import NoInput
from overwise.plainrun import run, trace
from overwise.program import read_program
from tests.helper import NO_NUMBERS, Case, counted

WAYS = ("down", "up", "cut", "near")
ROUNDING = {"down": math.floor, "up": math.ceil, "cut": math.trunc, "near": round}
KINDS = ["plain", "signed", "point 1", "point 2", "point 3"]


def ends_of(width, kind):
    half = 2 ** (width - 1)
    return (0, 2 * half - 1) if kind == "plain" else (-half, half - 1)


def count_of(width, kind, bits):
    low, high = ends_of(width, kind)
    return bits if bits <= high else bits - 2 ** width


def round_about(width, kind, number):
    low, high = ends_of(width, kind)
    return (number % 2 ** width, "" if low <= number <= high else "round")


def stopped(width, kind, number):
    low, high = ends_of(width, kind)
    nearest = min(high, max(low, number))
    return (nearest % 2 ** width, "" if nearest == number else "stop")


def brought(width, kind, words, bits):
    """What a row, told by the words behind its `=`, brings of the bits that it reads: a list of bits, and a mark."""
    deed, size = words[0], 2 ** width
    counts = [count_of(width, kind, word) for word in bits]
    x, y = counts[0], counts[-1]
    if deed in ("add", "sub", "low", "left"):
        number = {"add": x + y, "sub": x - y, "low": x * y, "left": x * 2 ** int(words[-1]) if deed == "left" else 0}[deed]
        word, mark = round_about(width, kind, number)
        return [word], mark
    if deed in ("addstop", "substop"):
        word, mark = stopped(width, kind, x + y if deed == "addstop" else x - y)
        return [word], mark
    if deed == "mul":
        product = Fraction(x * y, 2 ** int(kind.split()[1]))
        word, mark = stopped(width, kind, ROUNDING[words[-1]](product))
        return [word], mark
    if deed == "over":
        return ([size - 1], "nothing") if y == 0 else ([x // y], "")
    if deed == "part":
        return [x // int(words[-1]), x % int(words[-1])], ""
    if deed == "copy":
        return [bits[0]], ""
    if deed == "div":
        return [ROUNDING[words[-1]](Fraction(x, int(words[-2]))) % size], ""
    if deed == "times":
        return [ROUNDING[words[-1]](x * Fraction(words[-2])) % size], ""
    number = {
        "high": lambda: math.floor(Fraction(x * y, size)), "right": lambda: math.floor(Fraction(x, 2 ** int(words[-1]))),
        "rest": lambda: x - int(words[-1]) * math.floor(Fraction(x, int(words[-1]))), "less": lambda: int(x < y),
        "same": lambda: int(x == y),
    }[deed]()
    return [number % size], ""


def ends_and_some(width):
    half = 2 ** (width - 1)
    return [0, 1, 2, 3, half - 2, half - 1, half, half + 1, half + 2, 2 * half - 2, 2 * half - 1, half // 3, 5 * half // 3]


class RunCase(Case):
    def row_told(self, width, kind, row, many):
        """A program with one row that reads words of a kind and puts by new names."""
        goals = "x y" if row.startswith("part") else "x"
        ins = [f"in {name} {kind}" for name in "ab"[:many]]
        return read_program("\n".join([f"width {width}"] + ins + [f"{goals} = {row}"] + [f"out {name}" for name in goals.split()]))

    def look_at(self, width, kind, row, words):
        """A row of one or two names, at all pairs of words."""
        many = 2 if " b" in row else 1
        program = self.row_told(width, kind, row, many)
        line = many + 1
        for a in words:
            for b in words if many == 2 else [0]:
                inputs = {"a": a, "b": b} if many == 2 else {"a": a}
                bits, mark = brought(width, kind, row.split(" "), [a, b][:many])
                outs = dict(zip("xy", bits))
                wanted = (outs, [(line, mark)] if mark else [])
                self.same(run(program, inputs), wanted, width, kind, row, inputs)
                self.same(trace(program, inputs), [(line, name, outs[name]) for name in outs], width, kind, row, inputs)


class Deeds(RunCase):
    TWO_OF_A_KIND = ("add", "sub", "addstop", "substop", "less", "same")

    def test_two_words_of_any_kind(self):
        for kind in KINDS:
            for deed in self.TWO_OF_A_KIND:
                self.look_at(4, kind, f"{deed} a b", range(16))
        for kind in ("plain", "signed", "point 17"):
            for deed in self.TWO_OF_A_KIND:
                self.look_at(32, kind, f"{deed} a b", ends_and_some(32))

    def test_two_plain_words(self):
        for deed in ("low", "high", "over"):
            self.look_at(4, "plain", f"{deed} a b", range(16))
            self.look_at(32, "plain", f"{deed} a b", ends_and_some(32))

    def test_moving(self):
        for kind in KINDS:
            for deed in ("left", "right"):
                for k in range(4):
                    self.look_at(4, kind, f"{deed} a {k}", range(16))
        for kind in ("plain", "signed", "point 31"):
            for k in (0, 1, 15, 31):
                self.look_at(32, kind, f"left a {k}", ends_and_some(32))
                self.look_at(32, kind, f"right a {k}", ends_and_some(32))

    def test_rest_and_part(self):
        for number in range(1, 16):
            self.look_at(4, "plain", f"rest a {number}", range(16))
            self.look_at(4, "plain", f"part a {number}", range(16))
        for number in (1, 2, 10, 2 ** 31 - 1, 2 ** 31, 2 ** 32 - 1):
            self.look_at(32, "plain", f"rest a {number}", ends_and_some(32))
            self.look_at(32, "plain", f"part a {number}", ends_and_some(32))

    def test_div(self):
        for way in WAYS:
            for kind in KINDS:
                for number in range(1, 16 if kind == "plain" else 9):
                    self.look_at(4, kind, f"div a {number} {way}", range(16))
            for kind in ("plain", "signed", "point 20"):
                for number in (1, 2, 3, 10, 2 ** 31 - 1, 2 ** 31):
                    self.look_at(32, kind, f"div a {number} {way}", ends_and_some(32))
            self.look_at(32, "plain", f"div a {2 ** 32 - 1} {way}", ends_and_some(32))

    def test_times(self):
        for way in WAYS:
            for kind in KINDS:
                for bottom in range(1, 16 if kind == "plain" else 9):
                    for top in sorted({0, 1, bottom // 2, bottom - 1, bottom}):
                        self.look_at(4, kind, f"times a {top}/{bottom} {way}", range(16))
            for kind in ("plain", "signed", "point 20"):
                for fraction in ("0/1", "1/1", "1/3", "2/3", "4/8", f"{2 ** 31 - 1}/{2 ** 31}", f"{2 ** 31}/{2 ** 31}"):
                    self.look_at(32, kind, f"times a {fraction} {way}", ends_and_some(32))

    def test_mul(self):
        for way in WAYS:
            for kind in KINDS[2:]:
                self.look_at(4, kind, f"mul a b {way}", range(16))
            for kind in ("point 1", "point 16", "point 31"):
                self.look_at(32, kind, f"mul a b {way}", ends_and_some(32))

    def test_copy(self):
        for kind in KINDS:
            self.look_at(4, kind, "copy a", range(16))

    def test_set(self):
        for width in (4, 32):
            for kind in ("plain", "signed", "point 3"):
                for bits in ends_and_some(width):
                    count = count_of(width, kind, bits)
                    figures = str(count) if kind != "point 3" else self.shown(count)
                    program = read_program(f"width {width}\nx = set {kind} {figures}\nout x")
                    self.same(run(program, {}), ({"x": bits}, []))
                    self.same(trace(program, {}), [(1, "x", bits)])

    def shown(self, count):
        figures = f"{abs(count) // 8}.{abs(count) % 8 * 125:03}".rstrip("0").rstrip(".")
        return ("-" if count < 0 else "") + figures

    def test_pick(self):
        for kind in KINDS:
            program = read_program(f"width 4\nin c plain\nin a {kind}\nin b {kind}\nx = pick c a b\nout x")
            for c in range(16):
                for a, b in [(0, 15), (15, 0), (8, 7), (5, 5), (1, 2)]:
                    wanted = a if c != 0 else b
                    self.same(run(program, {"a": a, "b": b, "c": c}), ({"x": wanted}, []))
                    self.same(trace(program, {"a": a, "b": b, "c": c}), [(4, "x", wanted)])

    def test_told(self):
        self.same(run(read_program("width 8\nin a signed\nx = div a 2 near\nout x"), {"a": 251}), ({"x": 254}, []))
        self.same(run(read_program("width 8\nin a signed\nx = div a 2 down\nout x"), {"a": 251}), ({"x": 253}, []))
        self.same(run(read_program("width 8\nin a plain\nx = left a 1\nout x"), {"a": 200}), ({"x": 144}, [(2, "round")]))
        self.same(run(read_program("width 8\nin a signed\nx = left a 1\nout x"), {"a": 200}), ({"x": 144}, []))
        self.same(run(read_program("width 8\nin a point 4\nx = mul a a up\nout x"), {"a": 130}), ({"x": 127}, [(2, "stop")]))
        self.same(run(read_program("width 8\nin a plain\nx = sub a a\ny = over a x\nout y"), {"a": 9}), ({"y": 255}, [(3, "nothing")]))
        self.same(run(read_program("width 8\nin a signed\nx = sub a a\nx = sub x a\nout x"), {"a": 128}), ({"x": 128}, [(3, "round")]))


class Names(RunCase):
    def test_a_name_put_and_read_in_one_row(self):
        program = read_program("width 4\nin a plain\nin b plain\na = add a a\nb a = part a 3\na = pick a b a\nout a\nout b")
        for a in range(16):
            twice = 2 * a % 16
            b, rest = twice // 3, twice % 3
            last = b if rest != 0 else rest
            marks = [(3, "round")] if a > 7 else []
            self.same(run(program, {"a": a, "b": 1}), ({"a": last, "b": b}, marks))
            self.same(trace(program, {"a": a, "b": 1}), [(3, "a", twice), (4, "b", b), (4, "a", rest), (5, "a", last)])

    def test_part_that_puts_over_what_it_reads(self):
        program = read_program("width 8\nin a plain\na b = part a 10\nout a\nout b")
        self.same(run(program, {"a": 123}), ({"a": 12, "b": 3}, []))
        program = read_program("width 8\nin a plain\nb a = part a 10\nout a\nout b")
        self.same(run(program, {"a": 123}), ({"a": 3, "b": 12}, []))

    def test_outs_in_their_order(self):
        program = read_program("width 4\nin a plain\nin b signed\nc = set plain 3\nout c\nout b\nout a")
        outs, marks = run(program, {"b": 2, "a": 1})
        self.same(outs, {"c": 3, "b": 2, "a": 1})
        self.same(trace(program, {"b": 2, "a": 1}), [(3, "c", 3)])

    def test_no_rows(self):
        program = read_program("width 4\nin a plain\nout a")
        self.same(run(program, {"a": 15}), ({"a": 15}, []))
        self.same(trace(program, {"a": 15}), [])


class Loops(RunCase):
    def test_rows_done_over_and_over(self):
        program = read_program("width 8\nin a plain\nrepeat 5\na = add a a\nend\nout a")
        self.same(run(program, {"a": 3}), ({"a": 96}, []))
        self.same(run(program, {"a": 20}), ({"a": 128}, [(3, "round")]))
        self.same(run(program, {"a": 100}), ({"a": 128}, [(3, "round"), (3, "round")]))
        self.same(trace(program, {"a": 20}), [(3, "a", 40), (3, "a", 80), (3, "a", 160), (3, "a", 64), (3, "a", 128)])

    def test_loops_within_loops(self):
        text = (
            "width 8\nin a plain\ni = set plain 0\none = set plain 1\nrepeat 2\nrepeat 3\ni = add i one\nrepeat 2\na = add a i\n"
            "end\nend\nq r = part a 7\nend\na = sub a q\nout a\nout r"
        )
        program = read_program(text)
        for a in (0, 1, 100, 250, 255):
            puts, marks, i, word = [(2, "i", 0), (3, "one", 1)], [], 0, a
            for outer in range(2):
                for inner in range(3):
                    i += 1
                    puts.append((6, "i", i))
                    for inmost in range(2):
                        if word + i > 255:
                            marks.append((8, "round"))
                        word = (word + i) % 256
                        puts.append((8, "a", word))
                puts += [(11, "q", word // 7), (11, "r", word % 7)]
            if word < word // 7:
                marks.append((13, "round"))
            last = (word - word // 7) % 256
            self.same(trace(program, {"a": a}), puts + [(13, "a", last)])
            self.same(run(program, {"a": a}), ({"a": last, "r": word % 7}, marks))

    def test_six_hundred_rows(self):
        program = read_program("width 32\nin a signed\nrepeat 30\nrepeat 20\na = times a 99/100 near\nend\nend\nout a")
        found = counted(trace, program, {"a": 2 ** 31}, most=200_000)
        self.same(len(found), 600)
        count = -(2 ** 31)
        for line, name, bits in found:
            count = round(Fraction(count * 99, 100))
            self.same((line, name, bits), (4, "a", count % 2 ** 32))
        self.same(run(program, {"a": 2 ** 31}), ({"a": count % 2 ** 32}, []))


class Marks(RunCase):
    def test_in_the_order_in_which_they_came(self):
        program = read_program(
            "width 4\nin a plain\nin b plain\nin s signed\nx = over a b\ny = add a a\nz = addstop s s\nw = substop b a\nv = low x a\n"
            "x = over x b\nout x"
        )
        self.same(run(program, {"a": 9, "b": 0, "s": 7})[1], [
            (4, "nothing"), (5, "round"), (6, "stop"), (7, "stop"), (8, "round"), (9, "nothing"),
        ])
        self.same(run(program, {"a": 1, "b": 1, "s": 1})[1], [])
        self.same(run(program, {"a": 9, "b": 9, "s": 8})[1], [(5, "round"), (6, "stop")])


class Inputs(RunCase):
    PROGRAM = "width 8\nin b plain\nin a signed\nin c point 3\nx = add a a\nout x"

    def test_lacking(self):
        program = read_program(self.PROGRAM)
        for inputs, name in [
            ({}, "b"), ({"a": 1, "c": 1}, "b"), ({"b": 1, "c": 1}, "a"), ({"b": 1, "a": 1}, "c"), ({"a": 1}, "b"), ({"b": 1}, "a"),
            ({"B": 1, "A": 1, "C": 1}, "b"), ({"b ": 1, "a": 1, "c": 1}, "b"), ({0: 1, None: 2, ("b",): 3}, "b"),
        ]:
            self.refused(NoInput, {"name": name}, run, program, inputs)
            self.refused(NoInput, {"name": name}, trace, program, inputs)

    def test_no_bits(self):
        program = read_program(self.PROGRAM)
        for thing in NO_NUMBERS + [-1, 256, 10 ** 39, -(10 ** 39)]:
            for name in "bac":
                inputs = {**{"a": 1, "b": 2, "c": 3}, name: thing}
                self.refused(NoInput, {"name": name}, run, program, inputs)
                self.refused(NoInput, {"name": name}, trace, program, inputs)
            self.refused(NoInput, {"name": "b"}, run, program, {"c": thing, "a": thing, "b": thing})
            self.refused(NoInput, {"name": "a"}, run, program, {"c": thing, "a": thing, "b": 255})

    def test_other_names_are_looked_past(self):
        program = read_program(self.PROGRAM)
        inputs = {"x": None, "z": [1], 3: "x", (1,): {}, "a": 100, "b": 255, "c": 0, "width": -1, "bb": 999}
        kept = dict(inputs)
        self.same(run(program, inputs), ({"x": 200}, [(4, "round")]))
        self.same(trace(program, inputs), [(4, "x", 200)])
        self.same(inputs, kept)

    def test_a_word_that_is_put_is_no_input(self):
        program = read_program("width 4\nx = set plain 3\nout x")
        self.same(run(program, {"x": 9}), ({"x": 3}, []))


class WhatIsTold(RunCase):
    TEXT = "width 8\nin a plain\nrepeat 3\na = add a a\nq r = part a 7\nend\nout a\nout q"

    def test_new_each_time(self):
        program = read_program(self.TEXT)
        self.fresh(run, program, {"a": 100})
        self.fresh(trace, program, {"a": 100})

    def test_what_is_handed_in_stays_as_it_was(self):
        program, inputs = read_program(self.TEXT), {"a": 100, "q": 7}
        outs, marks = run(program, inputs)
        trace(program, inputs)
        self.same(inputs, {"a": 100, "q": 7})
        outs["a"] = None
        self.same(inputs, {"a": 100, "q": 7})
        self.same(program.text(), self.TEXT)
        self.same([row.line for row in program.rows], [2])
        self.same([program.rows[0].rows[k].numbers for k in (0, 1)], [[], [7]])

    def test_a_program_that_sets_stays_as_it_was(self):
        program = read_program("width 8\nx = set plain 7\nrepeat 3\nx = add x x\nend\nout x")
        for many in range(3):
            self.same(run(program, {}), ({"x": 56}, []))
            self.same(program.rows[0].numbers, [7])

    def test_random_programs_against_a_second_run(self):
        source = random.Random(76)
        for many in range(150):
            width = source.choice([4, 5, 8, 32])
            names = {"a": "plain", "b": "plain", "s": "signed", "t": "signed", "p": "point 2", "q": "point 2"}
            lines = [f"width {width}"] + [f"in {name} {kind}" for name, kind in names.items()]
            rows = [self.row(source, width) for some in range(source.randrange(1, 12))]
            text = "\n".join(lines + [f"{goals} = {row}" for goals, row in rows] + [f"out {name}" for name in names])
            program = read_program(text)
            words = {name: source.choice(ends_and_some(width)) for name in names}
            inputs, puts, marks = dict(words), [], []
            for place, (goals, row) in enumerate(rows):
                parts = row.split(" ")
                reads = [word for word in parts[1:] if word in names]
                bits, mark = self.brought(width, names, parts, reads, words)
                for name, word in zip(goals.split(" "), bits):
                    words[name] = word
                    puts.append((7 + place, name, word))
                marks += [(7 + place, mark)] if mark else []
            self.same(trace(program, inputs), puts, text, inputs)
            self.same(run(program, inputs), (words, marks), text, inputs)

    def brought(self, width, names, parts, reads, words):
        if parts[0] == "pick":
            return [words[reads[1] if words[reads[0]] != 0 else reads[2]]], ""
        return brought(width, names[reads[0]], parts, [words[name] for name in reads])

    def row(self, source, width):
        one, other = source.choice(["ab", "ba", "st", "ts", "pq", "qp", "aa", "ss", "pp"])
        deed = source.choice(["copy", "add", "sub", "addstop", "substop", "left", "right", "div", "times", "mul", "pick", "less",
                              "same", "low", "high", "over", "rest", "part"])
        number, way = source.choice([1, 2, 3, 7, 2 ** (width - 1)]), source.choice(WAYS)
        if deed in ("add", "sub", "addstop", "substop"):
            return one, f"{deed} {one} {other}"
        if deed in ("less", "same"):
            return "a", f"{deed} {one} {other}"
        if deed in ("low", "high", "over"):
            return "b", f"{deed} a b"
        return {
            "copy": (one, f"copy {other}"), "left": (one, f"left {other} {source.randrange(width)}"),
            "right": (one, f"right {other} {source.randrange(width)}"), "div": (one, f"div {other} {number} {way}"),
            "times": (one, f"times {other} {source.randrange(number + 1)}/{number} {way}"), "mul": ("p", f"mul p q {way}"),
            "pick": (one, f"pick a {one} {other}"), "rest": ("b", f"rest a {number}"), "part": ("b a", f"part a {number}"),
        }[deed]


if __name__ == "__main__":
    unittest.main()
