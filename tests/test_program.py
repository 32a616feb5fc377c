import random
import re
import unittest
from fractions import Fraction

from overwise.errors import NoProgram, TooMuch, Twice, Unknown, WrongKind
from overwise.kinds import Kind, Plain, Pointed, Signed
from overwise.program import Program, read_program
from overwise.source import Repeat, Row
from tests.helper import NO_NUMBERS, Case, counted

RESERVED = (
    "width in out plain signed point set copy add sub addstop substop low high left right less same pick div rest over"
    " times mul part repeat end down up cut near"
).split()
TWO_NAMES = ("add", "sub", "addstop", "substop", "low", "high", "less", "same", "over")
WAYS = ("down", "up", "cut", "near")

# ---- a second reader, by patterns, against which read_program is held ----

NUMBER = r"(0|[1-9][0-9]{0,9})"
WORD = r"([a-z]{1,6})"
FIGURES = r"(-?(?:0|[1-9][0-9]*)(?:\.[0-9]*[1-9])?)"
KIND = rf"(plain|signed|point {NUMBER})"
PATTERNS = [(deed, rf"{WORD} = {deed} {WORD} {WORD}") for deed in TWO_NAMES] + [
    ("copy", rf"{WORD} = copy {WORD}"), ("pick", rf"{WORD} = pick {WORD} {WORD} {WORD}"),
    ("left", rf"{WORD} = left {WORD} {NUMBER}"), ("right", rf"{WORD} = right {WORD} {NUMBER}"),
    ("rest", rf"{WORD} = rest {WORD} {NUMBER}"), ("div", rf"{WORD} = div {WORD} {NUMBER} (down|up|cut|near)"),
    ("times", rf"{WORD} = times {WORD} {NUMBER}/{NUMBER} (down|up|cut|near)"),
    ("mul", rf"{WORD} = mul {WORD} {WORD} (down|up|cut|near)"), ("part", rf"{WORD} {WORD} = part {WORD} {NUMBER}"),
]


class Refused(Exception):
    pass


def matched(pattern, line):
    found = re.fullmatch(pattern, line)
    return None if found is None else list(found.groups())


def kind_in(width, groups):
    """(word, point), or None."""
    if groups[0] in ("plain", "signed"):
        return (groups[0], 0)
    return ("point", int(groups[1])) if 1 <= int(groups[1]) < width else None


def bits_shown(width, kind, figures):
    """The bits of the kind whose value is shown so, or None."""
    count = Fraction(figures) * 2 ** kind[1]
    low, high = (0, 2 ** width) if kind[0] == "plain" else (-(2 ** (width - 1)), 2 ** (width - 1))
    if figures == "-0" or count.denominator != 1 or not low <= count < high:
        return None
    return int(count) % 2 ** width


def row_in(width, line):
    """(deed, goals, reads, numbers, way, kind that is set or None), or None."""
    groups = matched(rf"{WORD} = set {KIND} {FIGURES}", line)
    if groups is not None:
        kind = kind_in(width, groups[1:3])
        bits = None if kind is None else bits_shown(width, kind, groups[3])
        bad = bits is None or groups[0] in RESERVED
        return None if bad else ("set", groups[:1], [], [bits], "", kind)
    for deed, pattern in PATTERNS:
        groups = matched(pattern, line)
        if groups is not None:
            return row_of(width, deed, groups)
    return None


def row_of(width, deed, groups):
    way = groups.pop() if deed in ("div", "times", "mul") else ""
    numbers = [int(group) for group in groups if group.isdigit()]
    names = [group for group in groups if not group.isdigit()]
    goals, reads = (names[:2], names[2:]) if deed == "part" else (names[:1], names[1:])
    if any(name in RESERVED for name in names) or len(set(goals)) != len(goals):
        return None
    if deed in ("left", "right") and not numbers[0] < width:
        return None
    if deed in ("rest", "div", "part") and not 1 <= numbers[0] < 2 ** width:
        return None
    if deed == "times" and not (1 <= numbers[1] < 2 ** width and numbers[0] <= numbers[1]):
        return None
    return (deed, goals, reads, numbers, way, None)


def first_walk(text):
    if not isinstance(text, str):
        raise Refused(NoProgram, {"line": 0})
    lines = text.split("\n")
    groups = matched(rf"width {NUMBER}", lines[0])
    if groups is None or not 4 <= int(groups[0]) <= 32:
        raise Refused(NoProgram, {"line": 0})
    width, names, opened, seen, outs = int(groups[0]), set(), [], [], False
    for number, line in enumerate(lines[1:], 1):
        name_in = matched(rf"in {WORD} {KIND}", line)
        name_out = matched(rf"out {WORD}", line)
        times = matched(rf"repeat {NUMBER}", line)
        row = row_in(width, line)
        good = True
        if name_in is not None:
            good = name_in[0] not in RESERVED and kind_in(width, name_in[1:]) is not None
            good = good and not outs and all(thing[0] == "in" for thing in seen)
            thing = ("in", number, name_in[0], kind_in(width, name_in[1:]))
            names.add(name_in[0])
        elif name_out is not None:
            good, outs, thing = name_out[0] not in RESERVED and not opened, True, ("out", number, name_out[0])
        elif times is not None:
            good, thing = 1 <= int(times[0]) <= 32 and not outs, ("repeat", number, int(times[0]))
            opened.append(number)
        elif line == "end":
            good, thing = bool(opened) and seen[-1][0] != "repeat", ("end", number)
            opened = opened[:-1]
        elif row is not None:
            good, thing = not outs, ("row", number, row)
            names |= set(row[1])
        else:
            good = False
        if not good:
            raise Refused(NoProgram, {"line": number})
        if number == 60 or len(names) > 30 or len(opened) > 3:
            raise Refused(TooMuch, {"line": number})
        seen.append(thing)
    if opened or not outs:
        raise Refused(NoProgram, {"line": len(lines)})
    return width, seen


def wrong_read(width, row, kinds):
    deed, goals, reads, numbers, way, told = row
    read = [kinds[name] for name in reads]
    if deed in ("low", "high", "over", "rest", "part"):
        return next((name for name in reads if kinds[name][0] != "plain"), None)
    if deed == "mul" and any(kind[0] != "point" for kind in read):
        return next(name for name in reads if kinds[name][0] != "point")
    if deed == "pick" and read[0][0] != "plain":
        return reads[0]
    if deed in ("add", "sub", "addstop", "substop", "less", "same", "mul", "pick") and read[-1] != read[-2]:
        return reads[-1]
    if deed in ("div", "times") and numbers[-1] > 2 ** (width - 1) and read[0][0] != "plain":
        return reads[0]
    return None


def second_walk(width, seen):
    kinds, came, gone = {}, set(), set()
    for thing in seen:
        line = thing[1]
        if thing[0] == "in":
            if thing[2] in came:
                raise Refused(Twice, {"line": line, "name": thing[2]})
            came.add(thing[2])
            kinds[thing[2]] = thing[3]
        elif thing[0] == "out":
            if thing[2] not in kinds:
                raise Refused(Unknown, {"line": line, "name": thing[2]})
            if thing[2] in gone:
                raise Refused(Twice, {"line": line, "name": thing[2]})
            gone.add(thing[2])
        elif thing[0] == "row":
            look_at_row(width, line, thing[2], kinds)
    return kinds


def look_at_row(width, line, row, kinds):
    deed, goals, reads, numbers, way, told = row
    for name in reads:
        if name not in kinds:
            raise Refused(Unknown, {"line": line, "name": name})
    wrong = wrong_read(width, row, kinds)
    if wrong is not None:
        raise Refused(WrongKind, {"line": line, "name": wrong})
    if deed == "set":
        kind = told
    elif deed in ("less", "same", "low", "high", "over", "rest", "part"):
        kind = ("plain", 0)
    else:
        kind = kinds[reads[1] if deed == "pick" else reads[0]]
    for name in goals:
        if kinds.get(name, kind) != kind:
            raise Refused(WrongKind, {"line": line, "name": name})
    for name in goals:
        kinds[name] = kind


def told_by_hand(text):
    """What a text tells, or Refused."""
    width, seen = first_walk(text)
    kinds = second_walk(width, seen)
    rows, open_lists, worth, done = [], [], [1], 0
    for thing in seen:
        here = open_lists[-1] if open_lists else rows
        if thing[0] == "repeat":
            here.append((thing[1], thing[2], []))
            open_lists.append(here[-1][2])
            worth.append(worth[-1] * thing[2])
        elif thing[0] == "end":
            open_lists.pop()
            worth.pop()
        elif thing[0] == "row":
            here.append((thing[1],) + thing[2][:5])
            done += worth[-1]
    if done > 600:
        raise Refused(TooMuch, {"line": -1})
    inputs = [(thing[2], thing[3]) for thing in seen if thing[0] == "in"]
    outs = [thing[2] for thing in seen if thing[0] == "out"]
    return {"width": width, "inputs": inputs, "rows": rows, "outs": outs, "names": list(kinds.items()), "done": done}


# ---- what a Program tells, in the same form ----


def told_kind(width, kind):
    assert isinstance(kind, Kind) and kind.width == width
    return (kind.word(), kind.point)


def told_rows(rows):
    assert type(rows) is list
    found = []
    for row in rows:
        if isinstance(row, Repeat):
            found.append((row.line, row.times, told_rows(row.rows)))
        else:
            assert isinstance(row, Row)
            found.append((row.line, row.deed, row.goals, row.reads, row.numbers, row.way))
    return found


def told(program):
    width = program.width
    return {
        "width": width, "inputs": [(name, told_kind(width, kind)) for name, kind in program.inputs],
        "rows": told_rows(program.rows), "outs": program.outs,
        "names": [(name, told_kind(width, kind)) for name, kind in program.names()], "done": program.rows_run(),
    }


class ProgramCase(Case):
    def look_at(self, text):
        """A text is read, or refused, as the second reader tells; told is whether it was read."""
        try:
            wanted = told_by_hand(text)
        except Refused as refusal:
            self.refused(*refusal.args, read_program, text)
            return False
        program = read_program(text)
        self.assertIs(type(program), Program)
        self.same(told(program), wanted, text)
        self.same(program.text(), text)
        for name, kind in wanted["names"]:
            self.same(told_kind(program.width, program.kind_of(name)), kind)
        return True

    def good(self, text):
        self.assertTrue(self.look_at(text), text)
        return read_program(text)

    def bad(self, kind, fields, text):
        self.refused(kind, fields, read_program, text)
        self.look_at(text)

    def bad_line(self, line, *lines):
        self.bad(NoProgram, {"line": line}, "\n".join(lines))


HEAD = ["width 8", "in a plain", "in b plain", "in s signed", "in t signed", "in p point 3", "in q point 3"]
GOOD_ROWS = [
    ("x = set plain 0", "set", ["x"], [], [0], ""), ("x = set plain 255", "set", ["x"], [], [255], ""),
    ("x = set signed -128", "set", ["x"], [], [128], ""), ("x = set signed 127", "set", ["x"], [], [127], ""),
    ("x = set signed -1", "set", ["x"], [], [255], ""), ("x = set point 1 63.5", "set", ["x"], [], [127], ""),
    ("x = set point 7 -0.0078125", "set", ["x"], [], [255], ""), ("x = set point 3 -16", "set", ["x"], [], [128], ""),
    ("x = copy a", "copy", ["x"], ["a"], [], ""), ("x = copy p", "copy", ["x"], ["p"], [], ""),
    ("s = pick a s t", "pick", ["s"], ["a", "s", "t"], [], ""), ("x = pick b p q", "pick", ["x"], ["b", "p", "q"], [], ""),
    ("x = add a b", "add", ["x"], ["a", "b"], [], ""), ("x = sub s t", "sub", ["x"], ["s", "t"], [], ""),
    ("x = addstop p q", "addstop", ["x"], ["p", "q"], [], ""), ("x = substop s s", "substop", ["x"], ["s", "s"], [], ""),
    ("x = low a b", "low", ["x"], ["a", "b"], [], ""), ("a = high a b", "high", ["a"], ["a", "b"], [], ""),
    ("x = less s t", "less", ["x"], ["s", "t"], [], ""), ("b = same p q", "same", ["b"], ["p", "q"], [], ""),
    ("x = over a b", "over", ["x"], ["a", "b"], [], ""), ("x = left s 0", "left", ["x"], ["s"], [0], ""),
    ("x = left a 7", "left", ["x"], ["a"], [7], ""), ("x = right p 7", "right", ["x"], ["p"], [7], ""),
    ("x = rest a 1", "rest", ["x"], ["a"], [1], ""), ("x = rest a 255", "rest", ["x"], ["a"], [255], ""),
    ("x = div a 255 down", "div", ["x"], ["a"], [255], "down"), ("x = div s 128 up", "div", ["x"], ["s"], [128], "up"),
    ("x = div p 1 cut", "div", ["x"], ["p"], [1], "cut"), ("x = div a 7 near", "div", ["x"], ["a"], [7], "near"),
    ("x = times a 0/1 down", "times", ["x"], ["a"], [0, 1], "down"),
    ("x = times a 255/255 up", "times", ["x"], ["a"], [255, 255], "up"),
    ("x = times s 127/128 cut", "times", ["x"], ["s"], [127, 128], "cut"),
    ("x = times p 4/8 near", "times", ["x"], ["p"], [4, 8], "near"),
    ("x = mul p q near", "mul", ["x"], ["p", "q"], [], "near"), ("x = mul p p down", "mul", ["x"], ["p", "p"], [], "down"),
    ("x y = part a 10", "part", ["x", "y"], ["a"], [10], ""), ("b a = part a 255", "part", ["b", "a"], ["a"], [255], ""),
]


class FormsOfLines(ProgramCase):
    def test_every_row(self):
        for text, deed, goals, reads, numbers, way in GOOD_ROWS:
            program = self.good("\n".join(HEAD + [text, "out " + goals[0]]))
            row = program.rows[0]
            self.assertIs(type(row), Row)
            found = (row.line, row.deed, row.goals, row.reads, row.numbers, row.way)
            self.same(found, (7, deed, goals, reads, numbers, way), text)

    def test_every_width_kind_and_loop(self):
        for width in range(4, 33):
            points = [f"in {'abc'[place]} point {point}" for place, point in enumerate((1, 2, width - 1))]
            self.good("\n".join([f"width {width}"] + points + ["in x plain", "in y signed", "out x"]))
        for times in range(1, 33):
            self.good(f"width 4\nin a plain\nrepeat {times}\na = copy a\nend\nout a")

    def test_blanks(self):
        good = HEAD + [row[0] for row in GOOD_ROWS] + ["repeat 3", "end", "out a"]
        for line in good:
            words = line.split(" ")
            wrong = [" " + line, line + " ", "  " + line, line + "  ", line + "\t", "\t" + line, line.replace(" ", "\t")]
            wrong += [" ".join(words[:k]) + "  " + " ".join(words[k:]) for k in range(1, len(words))]
            wrong += [" ".join(words[:k]) + "" + " ".join(words[k:]) for k in range(1, len(words))]
            wrong += [line + " a", line + " 1", "a " + line, line.upper(), line.title(), line + "."]
            wrong += [" ".join(words[:k] + words[k + 1:]) for k in range(len(words))]
            for text in wrong:
                # Some of these are good lines of another form: the second reader tells.
                self.look_at("\n".join(HEAD + [text, "out a"]))
                if text.strip(" ") != text or "  " in text or "\t" in text:
                    self.bad_line(7, *HEAD, text, "out a")
                if line.startswith("width"):
                    self.look_at("\n".join([text] + HEAD[1:] + ["out a"]))

    def test_numbers(self):
        for word in ["", "-1", "+1", "01", "00", "007", "1.0", "1e1", "0x1", "1_0", "one", "10000000000", "00000000001", "a",
                     "0000000000", "99999999999", "9999999999", "4294967296", "\u0661", "1,0", "()"]:
            self.bad_line(0, f"width {word}", "in a plain", "out a")
            self.bad_line(1, "width 32", f"in a point {word}", "out a")
            self.bad_line(2, "width 32", "in a plain", f"repeat {word}", "a = copy a", "end", "out a")
            for row in ("a = left a {}", "a = right a {}", "a = times a {}/7 down", "a = rest a {}", "a = div a {} up",
                        "a = times a 0/{} up", "a b = part a {}", "a = times a {}/9 cut"):
                self.look_at("\n".join(["width 32", "in a plain", row.format(word), "out a"]))
                if word not in ("9999999999", "4294967296") or "left" in row:
                    self.bad_line(2, "width 32", "in a plain", row.format(word), "out a")

    def test_one_beyond_each_end(self):
        for word in (3, 33, 0, 100):
            self.bad_line(0, f"width {word}", "in a plain", "out a")
        for width in (4, 5, 31, 32):
            for word in (0, width, width + 1):
                self.bad_line(1, f"width {width}", f"in a point {word}", "out a")
                self.bad_line(1, f"width {width}", f"a = set point {word} 0", "out a")
            for word in (width, width + 1):
                self.bad_line(2, f"width {width}", "in a plain", f"a = left a {word}", "out a")
                self.bad_line(2, f"width {width}", "in a plain", f"a = right a {word}", "out a")
            for word in (0, 2 ** width, 2 ** width + 1):
                for row in (f"a = rest a {word}", f"a = div a {word} down", f"a b = part a {word}", f"a = times a 0/{word} up"):
                    self.bad_line(2, f"width {width}", "in a plain", row, "out a")
            for top, bottom in ((1, 0), (8, 7), (2 ** width - 1, 2 ** width - 2)):
                self.bad_line(2, f"width {width}", "in a plain", f"a = times a {top}/{bottom} near", "out a")
            last = 2 ** width - 1
            for row in (f"a = rest a {last}", f"a = div a {last} down", f"a b = part a {last}", f"a = times a {last}/{last} up"):
                self.good(f"width {width}\nin a plain\n{row}\nout a")
        for word in (0, 33):
            self.bad_line(2, "width 4", "in a plain", f"repeat {word}", "a = copy a", "end", "out a")

    def test_fractions(self):
        for word in ("1", "/", "1/", "/2", "1/2/3", "1//2", "1 /2", "1/ 2", "-1/2", "1/-2", "01/2", "1/02", "a/b", "1.0/2", "3/2"):
            self.bad_line(2, "width 8", "in a plain", f"a = times a {word} down", "out a")

    def test_names(self):
        for name in RESERVED + ["", "A", "aB", "a1", "1a", "a_", "_", "abcdefg", "a-b", "a.b", "=", "\u00e9", "\u0430", "/"]:
            self.bad_line(1, "width 8", f"in {name} plain", "in a plain", f"out {name}")
            self.bad_line(2, "width 8", "in a plain", f"{name} = copy a", "out a")
            self.bad_line(2, "width 8", "in a plain", f"a = copy {name}", "out a")
            self.bad_line(2, "width 8", "in a plain", f"out {name}")
            for row in (f"{name} b = part a 3", f"b {name} = part a 3", f"b c = part {name} 3", f"a = pick a a {name}",
                        f"a = pick {name} a a", f"a = add a {name}", f"a = add {name} a", f"a = left {name} 1",
                        f"a = div {name} 3 up", f"a = times {name} 1/3 up", f"a = mul {name} a up", f"a = mul a {name} up",
                        f"{name} = set plain 3", f"a = rest {name} 3"):
                self.bad_line(2, "width 8", "in a plain", row, "out a")
        for name in ["abcdef", "zzzzzz", "z", "inn", "ou", "sett", "widths", "ends", "e", "pla", "cuts"]:
            self.good(f"width 8\nin {name} plain\n{name} = copy {name}\nout {name}")

    def test_other_rows(self):
        for row in ["", "a", "a =", "a = copy", "= copy a", "a copy a", "a = add a", "a = add a b a", "a = pick a b", "a = and a b",
                    "a := copy a", "a == copy a", "a=copy a", "a = copy a;", "a = set 3", "a = set plain", "a = set plain 3 4",
                    "a = set plain signed", "a = set point 3", "a = set point 1", "a = set pointed 1 3", "a = set signed point 1 3",
                    "a b = copy a", "a b = add a b", "a = part a 3", "a a = part b 3", "a b c = part a 3", "a b = part a b",
                    "a b = part a 3 down", "a b = rest a 3", "a b = set plain 3", "a b = div a 3 down", "a = div a 3",
                    "a = div a b down", "a = div a 3 downs", "a = div a 3 DOWN", "a = div a down 3", "a = rest a 3 down",
                    "a = left a b", "a = left a", "a = mul a b", "a = mul a 3 down", "a = times a 1 down", "a = times a 1/2",
                    "a = times 1/2 a down", "a = copy 3", "a = add a 3", "a = add 3 a", "width 8", "in", "out", "in a", "repeat",
                    "repeat a", "repeat 3 3", "end end", "end 3", "in b plain plain", "in b point", "in b point 3 3", "in b 3",
                    "in plain b", "out a b", "out", "a = div a 3 round", "a = div a 3 near near", "a = down a 3", "a = = copy a"]:
            self.bad_line(3, "width 8", "in a plain", "in b plain", row, "out a")

    def test_figures(self):
        for kind, wrong in [
            ("plain", ["256", "-1", "-0", "01", "1.0", "0.5", "+1", "", "a", "1.", ".5", "1000000000000"]),
            ("signed", ["128", "-129", "-0", "-01", "1.0", "0.5", "--1", "1.5"]),
            ("point 3", ["16", "-16.125", "0.0625", "1.50", "1.0", "-0", "01.5", "0.1", "1,5", "0.", "-.5", "15.9375"]),
            ("point 7", ["1", "-1.0078125", "0.99609375", "0.0"]),
        ]:
            for figures in wrong:
                self.bad_line(1, "width 8", f"a = set {kind} {figures}", "out a")
        for kind, right in [
            ("plain", ["0", "1", "255"]), ("signed", ["-128", "127", "0"]), ("point 3", ["-16", "15.875", "0.125", "-0.125"]),
            ("point 7", ["-1", "0.9921875"]),
        ]:
            for figures in right:
                self.good(f"width 8\na = set {kind} {figures}\nout a")
        longest = "-0.0000000004656612873077392578125"
        self.good(f"width 32\na = set point 31 {longest}\nout a")
        self.bad_line(1, "width 32", f"a = set point 31 {longest}0", "out a")

    def test_no_text_at_all(self):
        for thing in NO_NUMBERS + [0, 1, 4, ["width 4", "out a"], ("width 4\nout a",), {"width 4\nout a": 1}]:
            if not isinstance(thing, str):
                self.bad(NoProgram, {"line": 0}, thing)
        for text in ("", " ", "\n", "\n\n", "width", "width ", "width 4 ", " width 4", "width  4", "Width 4", "out a", "end",
                     "in a plain\nwidth 4\nout a", "a = set plain 3\nout a", "width 4 in a plain out a", "4", "width four"):
            self.bad(NoProgram, {"line": 0}, text)

    def test_line_feeds(self):
        good = "width 4\nin a plain\nout a"
        self.good(good)
        self.bad(NoProgram, {"line": 3}, good + "\n")
        self.bad(NoProgram, {"line": 3}, good + "\n\n")
        self.bad(NoProgram, {"line": 0}, "\n" + good)
        self.bad(NoProgram, {"line": 1}, good.replace("\n", "\n\n"))
        self.bad(NoProgram, {"line": 1}, "width 4\n")
        self.bad(NoProgram, {"line": 0}, "width 4\r\nin a plain\r\nout a")


class WhereLinesStand(ProgramCase):
    def test_ends(self):
        self.bad_line(2, "width 4", "in a plain", "end", "out a")
        self.bad_line(1, "width 4", "end")
        self.bad_line(3, "width 4", "in a plain", "repeat 2", "end", "out a")
        self.bad_line(5, "width 4", "in a plain", "repeat 2", "a = copy a", "repeat 3", "end", "end", "out a")
        self.bad_line(5, "width 4", "in a plain", "repeat 2", "a = copy a", "end", "end", "out a")
        self.bad_line(4, "width 4", "in a plain", "a = copy a", "out a", "end")
        self.good("width 4\nin a plain\nrepeat 2\nrepeat 2\na = copy a\nend\nend\nout a")

    def test_outs_in_loops(self):
        self.bad_line(4, "width 4", "in a plain", "repeat 2", "a = copy a", "out a", "end")
        self.bad_line(3, "width 4", "in a plain", "repeat 2", "out a", "a = copy a", "end")

    def test_ins_too_late(self):
        self.bad_line(3, "width 4", "in a plain", "a = copy a", "in b plain", "out a")
        self.bad_line(3, "width 4", "in a plain", "out a", "in b plain", "out b")
        self.bad_line(3, "width 4", "in a plain", "repeat 2", "in b plain", "end", "out a")
        self.bad_line(5, "width 4", "in a plain", "repeat 2", "a = copy a", "end", "in b plain", "out a")

    def test_behind_an_out(self):
        self.bad_line(3, "width 4", "in a plain", "out a", "a = copy a")
        self.bad_line(3, "width 4", "in a plain", "out a", "repeat 2", "a = copy a", "end")
        self.bad_line(4, "width 4", "in a plain", "in b plain", "out a", "x = set plain 3", "out b")
        self.good("width 4\nin a plain\nin b plain\nout b\nout a")

    def test_another_width(self):
        self.bad_line(1, "width 4", "width 4", "in a plain", "out a")
        self.bad_line(2, "width 4", "in a plain", "width 4", "out a")
        self.bad_line(3, "width 4", "in a plain", "out a", "width 4")

    def test_at_the_end(self):
        self.bad_line(1, "width 4")
        self.bad_line(2, "width 4", "in a plain")
        self.bad_line(3, "width 4", "in a plain", "a = copy a")
        self.bad_line(4, "width 4", "in a plain", "repeat 2", "a = copy a")
        self.bad_line(5, "width 4", "in a plain", "repeat 2", "repeat 2", "a = copy a")
        self.bad_line(6, "width 4", "in a plain", "repeat 2", "repeat 2", "a = copy a", "end")
        self.good("width 4\na = set plain 3\nout a")


def letters(number):
    """A name for each number."""
    return "n" + "abcdefghijklmnopqrstuvwxyz"[number // 26] + "abcdefghijklmnopqrstuvwxyz"[number % 26]


class TooMuchOfIt(ProgramCase):
    def test_lines(self):
        rows = ["a = copy a"] * 57
        self.good("\n".join(["width 4", "in a plain"] + rows + ["out a"]))
        self.bad(TooMuch, {"line": 60}, "\n".join(["width 4", "in a plain"] + rows + ["a = copy a", "out a"]))
        self.bad(TooMuch, {"line": 60}, "\n".join(["width 4", "in a plain"] + rows * 3 + ["out a"]))
        self.bad(TooMuch, {"line": 60}, "\n".join(["width 4", "in a plain"] + rows + ["a = copy a"] * 2 + ["bad", "out a"]))
        self.bad(NoProgram, {"line": 60}, "\n".join(["width 4", "in a plain"] + rows + ["a = copy a", "bad", "out a"]))
        self.bad(NoProgram, {"line": 60}, "\n".join(["width 4", "in a plain"] + rows + ["out a", "a = copy a"]))
        self.bad(NoProgram, {"line": 60}, "\n".join(["width 4", "in a plain"] + rows + ["out a", ""]))
        self.bad(NoProgram, {"line": 60}, "\n".join(["width 4", "in a plain"] + rows + ["a = copy a"]))

    def test_names_that_come_in(self):
        ins = [f"in {letters(k)} plain" for k in range(31)]
        self.good("\n".join(["width 4"] + ins[:30] + ["out naa"]))
        self.bad(TooMuch, {"line": 31}, "\n".join(["width 4"] + ins + ["out naa"]))
        self.bad(TooMuch, {"line": 31}, "\n".join(["width 4"] + ins + ["bad"]))
        self.bad(NoProgram, {"line": 31}, "\n".join(["width 4"] + ins[:30] + ["in nbe plane", "out naa"]))

    def test_names_that_are_put(self):
        sets = [f"{letters(k)} = set plain 3" for k in range(31)]
        self.good("\n".join(["width 4"] + sets[:30] + sets[:10] + ["out naa"]))
        self.bad(TooMuch, {"line": 31}, "\n".join(["width 4"] + sets + ["out naa"]))
        self.bad(TooMuch, {"line": 30}, "\n".join(["width 4"] + sets[:29] + ["x y = part naa 3", "out naa"]))
        self.good("\n".join(["width 4"] + sets[:28] + ["x y = part naa 3", "out naa"]))
        self.good("\n".join(["width 4"] + sets[:29] + ["naa y = part naa 3", "out naa"]))
        self.bad(TooMuch, {"line": 32}, "\n".join(["width 4", "in a plain"] + sets[:29] + ["repeat 3", sets[29], "end", "out a"]))

    def test_a_name_is_counted_once_and_reading_counts_none(self):
        ins = [f"in {letters(k)} plain" for k in range(30)]
        self.bad(Twice, {"line": 31, "name": "naa"}, "\n".join(["width 4"] + ins + [ins[0], "out naa"]))
        self.bad(Unknown, {"line": 31, "name": "x"}, "\n".join(["width 4"] + ins + ["naa = copy x", "out naa"]))
        self.bad(Unknown, {"line": 31, "name": "x"}, "\n".join(["width 4"] + ins + ["out x"]))

    def test_loops(self):
        ahead = ["width 4", "in a plain"]
        three = ["repeat 2"] * 3 + ["a = copy a"] + ["end"] * 3
        self.good("\n".join(ahead + three + three + ["out a"]))
        self.bad(TooMuch, {"line": 5}, "\n".join(ahead + ["repeat 2"] * 4 + ["a = copy a"] + ["end"] * 4 + ["out a"]))
        self.bad(TooMuch, {"line": 6}, "\n".join(ahead + ["repeat 1"] * 3 + ["a = copy a", "repeat 1", "bad"]))
        self.bad(NoProgram, {"line": 5}, "\n".join(ahead + ["repeat 2"] * 3 + ["repeat 33", "a = copy a"] + ["end"] * 4 + ["out a"]))
        self.good("\n".join(ahead + ["repeat 2", "repeat 2", "repeat 2", "a = copy a", "end", "repeat 2", "a = copy a", "end"]
                            + ["end", "end", "out a"]))

    def test_rows_of_a_run(self):
        def loops(*lines):
            return "\n".join(["width 4", "in a plain"] + list(lines) + ["out a"])

        row, end = "a = copy a", "end"
        self.same(self.good(loops("repeat 30", "repeat 20", row, end, end)).rows_run(), 600)
        self.bad(TooMuch, {"line": -1}, loops("repeat 30", "repeat 20", row, end, end, row))
        self.bad(TooMuch, {"line": -1}, loops("repeat 32", "repeat 19", row, end, end))
        self.same(self.good(loops("repeat 2", row, "repeat 3", row, row, end, "repeat 4", "repeat 5", row, end, end, end, row)).rows_run(), 55)
        self.bad(TooMuch, {"line": -1}, loops("repeat 32", "repeat 32", "repeat 32", row, end, end, end))
        self.same(self.good(loops()).rows_run(), 0)
        self.same(self.good(loops(row)).rows_run(), 1)
        self.same(self.good(loops("repeat 12", *[row] * 50, end)).rows_run(), 600)
        self.bad(TooMuch, {"line": -1}, loops("repeat 12", *[row] * 50, end, row))
        self.bad(Unknown, {"line": 4, "name": "x"}, loops("repeat 32", "repeat 32", "a = copy x", end, end))
        self.bad(Twice, {"line": 8, "name": "a"}, loops("repeat 32", "repeat 32", row, end, end, "out a"))
        self.bad(NoProgram, {"line": 8}, loops("repeat 32", "repeat 32", row, end, end, "out a", "bad"))


class NamesAndKinds(ProgramCase):
    def row(self, row):
        return "\n".join(HEAD + [row, "out a"])

    def unknown(self, name, row):
        self.bad(Unknown, {"line": 7, "name": name}, self.row(row))

    def wrong(self, name, row):
        self.bad(WrongKind, {"line": 7, "name": name}, self.row(row))

    def test_the_first_unknown_name(self):
        for deed in TWO_NAMES:
            self.unknown("x", f"x = {deed} x y")
            self.unknown("y", f"x = {deed} a y")
            self.unknown("x", f"x = {deed} x s")
            self.unknown("y", f"x = {deed} p y")
        self.unknown("x", "x = pick x y z")
        self.unknown("y", "x = pick s y z")
        self.unknown("z", "x = pick s p z")
        self.unknown("x", "x = copy x")
        self.unknown("y", "x = mul a y up")
        for row in ("x = left x 3", "x = right x 3", "x = rest x 3", "x = div x 200 up", "x = times x 1/200 up", "y z = part x 3",
                    "x y = part x 3"):
            self.unknown("x", row)
        self.bad(Unknown, {"line": 2, "name": "b"}, "width 4\na = set plain 3\na = copy b\nb = set plain 3\nout a")
        self.bad(Unknown, {"line": 1, "name": "b"}, "width 4\nout b")

    def test_plain_words_alone(self):
        for deed in ("low", "high", "over"):
            for other in "stpq":
                self.wrong(other, f"x = {deed} {other} a")
                self.wrong(other, f"x = {deed} a {other}")
                self.wrong(other, f"x = {deed} {other} p")
        for other in "stpq":
            self.wrong(other, f"x = rest {other} 3")
            self.wrong(other, f"x y = part {other} 3")
            self.wrong(other, f"x = pick {other} a b")
            self.wrong(other, f"x = pick {other} a p")

    def test_pointed_words_alone(self):
        for other in "abst":
            self.wrong(other, f"x = mul {other} p up")
            self.wrong(other, f"x = mul p {other} up")
            self.wrong(other, f"x = mul {other} a up")
        self.bad(WrongKind, {"line": 3, "name": "b"}, "width 8\nin a point 3\nin b point 4\nx = mul a b up\nout x")

    def test_words_of_the_same_kind(self):
        for deed in ("add", "sub", "addstop", "substop", "less", "same"):
            for one, other in ("as", "sa", "ap", "pa", "sp", "ps"):
                self.wrong(other, f"x = {deed} {one} {other}")
                self.wrong(other, f"x = pick a {one} {other}")
            self.bad(WrongKind, {"line": 3, "name": "b"}, f"width 8\nin a point 3\nin b point 4\nx = {deed} a b\nout x")
            self.bad(WrongKind, {"line": 3, "name": "b"}, f"width 8\nin a point 7\nin b signed\nx = {deed} a b\nout x")
        self.bad(WrongKind, {"line": 4, "name": "b"}, "width 8\nin a point 3\nin b point 4\nin c plain\nx = pick c a b\nout x")

    def test_divisors_above_half(self):
        for other in "stpq":
            for number in (129, 200, 255):
                self.wrong(other, f"x = div {other} {number} cut")
                self.wrong(other, f"x = times {other} 1/{number} cut")
                self.wrong(other, f"x = times {other} {number}/{number} cut")
            self.good(self.row(f"x = div {other} 128 cut"))
            self.good(self.row(f"x = times {other} 128/128 cut"))
        self.good(self.row("x = div a 255 cut"))
        self.good(self.row("x = times a 1/255 cut"))

    def test_a_name_put_with_another_kind(self):
        for row, name in [
            ("a = copy s", "a"), ("s = copy a", "s"), ("p = copy s", "p"), ("s = less s t", "s"), ("p = same p q", "p"),
            ("s = low a b", "s"), ("p = over a b", "p"), ("s = rest a 3", "s"), ("a = set signed 3", "a"), ("s = set plain 3", "s"),
            ("p = set point 4 3", "p"), ("p = set point 2 3", "p"), ("a = mul p q up", "a"), ("a = pick b s t", "a"),
            ("s = pick a a b", "s"), ("a = left s 3", "a"), ("a = div s 3 up", "a"), ("s = times p 1/3 up", "s"),
            ("s p = part a 3", "s"), ("x p = part a 3", "p"), ("p s = part a 3", "p"), ("a s = part b 3", "s"),
            ("a = add s t", "a"), ("s = substop p q", "s"), ("s = high a b", "s"), ("s = right p 1", "s"),
        ]:
            self.wrong(name, row)
        self.good(self.row("p = set point 3 3"))

    def test_several_faults_of_one_line(self):
        self.unknown("x", "s = low x p")
        self.unknown("x", "s = low p x")
        self.wrong("p", "s = low p s")
        self.wrong("s", "x = mul s p up")
        self.wrong("q", "s = less a q")
        self.wrong("s", "a = pick s p q")
        self.wrong("p", "a = pick a s p")
        self.wrong("s", "a = div s 200 up")
        self.bad(NoProgram, {"line": 7}, self.row("s = low x 3"))
        self.bad(NoProgram, {"line": 8}, "\n".join(HEAD + ["x = copy y", "bad", "out a"]))
        self.bad(NoProgram, {"line": 8}, "\n".join(HEAD + ["x = copy y"]))

    def test_kinds_by_the_lines_ahead(self):
        self.bad(WrongKind, {"line": 2, "name": "a"}, "width 4\na = set plain 3\na = set signed 3\nout a")
        self.bad(WrongKind, {"line": 4, "name": "a"}, "width 4\na = set plain 3\nrepeat 2\nb = set signed 3\na = copy b\nend\nout a")
        self.good("width 4\nrepeat 2\na = set signed 3\nend\nb = copy a\nout b")
        self.bad(Unknown, {"line": 2, "name": "b"}, "width 4\nrepeat 2\na = copy b\nb = set signed 3\nend\nout a")

    def test_in_and_out_twice(self):
        self.bad(Twice, {"line": 2, "name": "a"}, "width 4\nin a plain\nin a plain\nout a")
        self.bad(Twice, {"line": 3, "name": "a"}, "width 4\nin a plain\nin b plain\nin a signed\nout a")
        self.bad(Twice, {"line": 3, "name": "a"}, "width 4\nin a plain\nout a\nout a")
        self.bad(Twice, {"line": 4, "name": "a"}, "width 4\nin a plain\nb = copy a\nout a\nout a\nout c")
        self.bad(Unknown, {"line": 3, "name": "c"}, "width 4\nin a plain\nout a\nout c\nout a")
        self.bad(Twice, {"line": 2, "name": "a"}, "width 4\nin a plain\nin a plain\nx = copy y\nout z")
        self.good("width 4\nin a plain\na = copy a\nout a")


class WhatAProgramTells(ProgramCase):
    TEXT = (
        "width 8\nin a plain\nin b signed\nin c point 3\nx = set point 5 -1.5\nrepeat 3\ny = copy a\nrepeat 2\nq r = part y 10\n"
        "end\nb = div b 3 near\nrepeat 4\nz = mul c c cut\nend\nend\na = left a 2\nout z\nout a\nout q"
    )

    def test_told(self):
        program = self.good(self.TEXT)
        self.same(program.width, 8)
        self.same([(name, type(kind).__name__, kind.width, kind.point) for name, kind in program.inputs],
                  [("a", "Plain", 8, 0), ("b", "Signed", 8, 0), ("c", "Pointed", 8, 3)])
        self.same(program.outs, ["z", "a", "q"])
        self.same([name for name, kind in program.names()], ["a", "b", "c", "x", "y", "q", "r", "z"])
        self.same([told_kind(8, program.kind_of(name)) for name in "abcxyqrz"], [
            ("plain", 0), ("signed", 0), ("point", 3), ("point", 5), ("plain", 0), ("plain", 0), ("plain", 0), ("point", 3),
        ])
        self.same(program.rows_run(), 1 + 3 * (1 + 2 + 1 + 4) + 1)
        self.same(program.text(), self.TEXT)
        self.same(told_rows(program.rows), [
            (4, "set", ["x"], [], [208], ""),
            (5, 3, [
                (6, "copy", ["y"], ["a"], [], ""), (7, 2, [(8, "part", ["q", "r"], ["y"], [10], "")]),
                (10, "div", ["b"], ["b"], [3], "near"), (11, 4, [(12, "mul", ["z"], ["c", "c"], [], "cut")]),
            ]),
            (15, "left", ["a"], ["a"], [2], ""),
        ])
        self.assertIs(type(program.rows[1]), Repeat)
        self.assertEqual({type(program.kind_of(name)) for name in "abx"}, {Plain, Signed, Pointed})

    def test_no_inputs_and_no_rows(self):
        program = self.good("width 4\nin a plain\nout a")
        self.same((program.rows, program.outs, program.rows_run()), ([], ["a"], 0))
        program = self.good("width 4\na = set plain 3\nout a")
        self.same(program.inputs, [])

    def test_names_are_new_each_time(self):
        program = read_program(self.TEXT)
        first, second = program.names(), program.names()
        self.assertIsNot(first, second)
        first.clear()
        self.same([name for name, kind in program.names()], [name for name, kind in second])
        self.assertIsNot(second[0][1], program.names()[0][1])

    def test_two_programs_have_nothing_in_common(self):
        one, other = read_program(self.TEXT), read_program(self.TEXT)
        boxes = [self.all_boxes(program) for program in (one, other)]
        self.assertEqual(len(boxes[0]), len(boxes[1]))
        self.assertFalse({id(box) for box in boxes[0]} & {id(box) for box in boxes[1]})
        self.assertEqual(len({id(box) for box in boxes[0]}), len(boxes[0]))

    def all_boxes(self, program):
        found, rows = [program.inputs, program.rows, program.outs], list(program.rows)
        while rows:
            row = rows.pop()
            if isinstance(row, Repeat):
                found.append(row.rows)
                rows += row.rows
            else:
                found += [row.goals, row.reads, row.numbers]
        return found

    def test_within_the_steps(self):
        rows = [f"{letters(k % 30)} = set plain 3" for k in range(58)]
        counted(read_program, "\n".join(["width 32"] + rows + ["out naa"]), most=60_000)
        counted(self.safely, "width 4\n" + "a" * 7990, most=60_000)
        counted(self.safely, "\n" * 8000, most=60_000)
        counted(self.safely, "width 4\n" + "repeat 2\n" * 800, most=60_000)
        counted(self.safely, "width 4\na = set plain " + "1" * 7900, most=60_000)

    def safely(self, text):
        try:
            read_program(text)
        except (NoProgram, TooMuch):
            pass


class ManyTexts(ProgramCase):
    NAMES = ["a", "b", "c", "d", "e", "x", "end", "in", "point", "abcdefg"]

    def test_random_texts(self):
        source = random.Random(70)
        read = sum(self.look_at(self.text(source)) for many in range(4000))
        self.assertGreater(read, 300)

    def text(self, source):
        width = source.choice([4, 5, 8, 32])
        kinds = ["plain", "plain", "signed", f"point {source.choice([1, 2])}"]
        lines = [f"width {width}"]
        for name in source.sample(self.NAMES[:5], source.choice([0, 1, 3, 4, 5, 5])):
            lines.append(f"in {name} {source.choice(kinds)}")
        opened = 0
        for many in range(source.randrange(7)):
            pick = source.randrange(8)
            if pick == 0:
                lines.append(f"repeat {source.choice([1, 2, 3, 32])}")
                opened += 1
            elif pick == 1 and opened and not lines[-1].startswith("repeat"):
                lines.append("end")
                opened -= 1
            else:
                lines.append(self.row(source, width, kinds))
        if opened and lines[-1].startswith("repeat"):
            lines.append("a = copy a")
        lines += ["end"] * opened
        lines += [f"out {source.choice(self.NAMES[:6])}" for many in range(source.choice([1, 1, 1, 2]))]
        if source.randrange(6) == 0:
            place = source.randrange(len(lines))
            lines = source.choice([lines[:place] + lines[place + 1:], lines[:place] + lines[place:place + 1] + lines[place:]])
        return "\n".join(lines)

    def row(self, source, width, kinds):
        def name():
            return source.choice(self.NAMES[:5] if source.randrange(25) else self.NAMES)

        number = source.choice([0, 1, 2, 3, width - 1, width, 2 ** (width - 1), 2 ** (width - 1) + 1, 2 ** width - 1, 2 ** width])
        way = source.choice(["down", "up", "cut", "near", "near", "round"] if source.randrange(9) == 0 else WAYS)
        deed = source.choice(list(TWO_NAMES) + ["copy", "pick", "left", "right", "rest", "div", "times", "mul", "part", "set", "set"])
        if deed in TWO_NAMES:
            return f"{name()} = {deed} {name()} {name()}"
        small = min(number, source.choice([1, 2, 3, number]))
        return {
            "copy": f"{name()} = copy {name()}", "pick": f"{name()} = pick {name()} {name()} {name()}",
            "left": f"{name()} = left {name()} {small}", "right": f"{name()} = right {name()} {small}",
            "rest": f"{name()} = rest {name()} {number}", "div": f"{name()} = div {name()} {number} {way}",
            "times": f"{name()} = times {name()} {small}/{number} {way}", "mul": f"{name()} = mul {name()} {name()} {way}",
            "part": f"{name()} {name()} = part {name()} {number}",
            "set": f"{name()} = set {source.choice(kinds)} {source.choice(['0', '1', '-1', '1.5', '0.25', str(number)])}",
        }[deed]


if __name__ == "__main__":
    unittest.main()
