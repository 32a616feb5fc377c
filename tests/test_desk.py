import random
import unittest

from overwise.bounds import bound_of
from overwise.choice import choose
from overwise.corners import corners
from overwise.desk import Desk
from overwise.division import long_divided
from overwise.errors import (
    NoDesk, NoDivisor, NoForm, NoFraction, NoInput, NoLine, NoProgram, NoText, NothingBy, NoWay, NoWidth, NoWord, TooMuch, Twice,
    Unknown, WiseError, WrongKind,
)
from overwise.exact import exact, is_multiple
from overwise.exactrun import exact_run
from overwise.forms import Early, More, Scaled, Shifted, Wide, wrong_word
from overwise.kinds import Plain
from overwise.machine import cost_of
from overwise.maker import made
from overwise.miss import exact_form, miss_of
from overwise.plainrun import run, trace
from overwise.program import read_program
from overwise.signs import signed_choose
from overwise.steps import Set
from overwise.steptexts import read_steps, steps_text
from overwise.ways import way_of
from tests.helper import NO_NUMBERS, WAYS, Case, Drawing, counted, great_divisors, prices_of, words_of

WORDS = "set copy sum gap low high left right slide and or unlike under pick mark turns".split()
PROGRAM = (
    "width 8\nin a plain\nin s signed\nin p point 4\nq r = part a 10\nx = add a a\ns = div s 7 cut\nt = times s 1/3 near\nm = mul p p near\n"
    "out q\nout r\nout x\nout t\nout m"
)
PRICES = "set 1 copy 1 sum 1 gap 1 low 1 high 1 left 1 right 1 slide 1 and 1 or 1 unlike 1 under 1 pick 1 mark 1 turns 1"
FORTY = "9" * 40


def in_a_line(text):
    return text.replace("\n", " / ")


def flat(told):
    found = []
    for part in told:
        found += flat(part) if isinstance(part, tuple) else [str(part)]
    return found


def choice_told(told, refused):
    return " ".join(flat(told) + [word for form, at in refused for word in ["not"] + flat(form) + ["at", str(at)]])


def chosen(pair):
    return choice_told(pair[0].told(), [(form.told(), at) for form, at in pair[1]])


class DeskCase(Case):
    def desk(self, *lines):
        desk = Desk()
        for line in lines:
            desk.say(line)
        return desk

    def kept(self, desk):
        """All that a desk keeps, as it tells it."""
        try:
            program = desk.say("program")
        except NoDesk:
            program = None
        return (program, desk.say("prices"))

    def no_desk(self, desk, line):
        self.not_said(desk, line, NoDesk, {"found": line})

    def not_said(self, desk, line, kind, fields):
        """A line is refused, and changes nothing."""
        before = self.kept(desk)
        self.refused(kind, fields, desk.say, line)
        self.same(self.kept(desk), before)

    def refused_alike(self, desk, line, call, *things):
        """A line is refused just as a function refuses its things."""
        try:
            call(*things)
        except WiseError as error:
            self.not_said(desk, line, type(error), dict(vars(error)))
        else:
            self.fail(line)


class Lines(DeskCase):
    SOME = [
        "program", "program " + in_a_line(PROGRAM), "price set 3", "prices", "undo", "run a=1 s=2 p=3", "machine a=1 s=2 p=3", "trace a=1 s=2 p=3",
        "exact a=1 s=2 p=3", "cost", "rows", "papers", "bound t", "form 32 10", "signed 32 10", "wrong 32 10 scaled 429496730 0", "inverse 32 12",
        "multiple 32 12 252", "round near 7/2", "exactly 32 1/10", "miss 32 1/10 429496730 0 32", "corners 7 2 2 3", "divide 32 100 7",
    ]

    def test_each_has_an_answer(self):
        for line in self.SOME:
            desk = self.desk("price set 2", "program " + in_a_line(PROGRAM))
            self.assertIs(type(desk.say(line)), str)

    def test_blanks(self):
        for line in self.SOME:
            desk = self.desk("price set 2", "program " + in_a_line(PROGRAM))
            for other in (" " + line, line + " ", "  " + line, line + "  ", line.replace(" ", "  ", 1) if " " in line else line + "  "):
                self.no_desk(desk, other)
            if " " in line:
                self.no_desk(desk, line[::-1].replace(" ", "  ", 1)[::-1])
                self.no_desk(desk, line.replace(" ", "\t", 1))
        self.no_desk(desk, "")
        self.no_desk(desk, " ")

    def test_things_that_are_no_texts(self):
        for desk in (Desk(), self.desk("program " + in_a_line(PROGRAM))):
            for thing in NO_NUMBERS + [0, 1, 10 ** 39, ["prices"], ("prices",), {"prices": 1}, Set("a", 1), Plain(8), Desk()]:
                if thing != "":
                    self.no_desk(desk, thing)

    def test_other_first_words(self):
        desk = self.desk("program " + in_a_line(PROGRAM))
        for line in ("x", "Prices", "PRICES", "price", "help", "programs", "formm 32 10", "forms 32 10", "unde", "redo", "0", "/", "=", "-", "exact_ a=1",
                     "width 8", "choose 32 10", "say prices", "papers/"):
            self.no_desk(desk, line)

    def test_a_word_too_many_or_too_few(self):
        for line in self.SOME:
            desk = self.desk("price set 2", "program " + in_a_line(PROGRAM))
            words = line.split(" ")
            if words[0] in ("program",):
                continue
            for other in (line + " x", line + " 1"):
                self.no_desk(desk, other)
            if len(words) > 1 and words[0] not in ("run", "machine", "trace", "exact"):
                self.no_desk(desk, " ".join(words[:-1]))
                self.no_desk(desk, words[0])

    def test_two_desks_at_once(self):
        one, other = Desk(), Desk()
        one.say("program " + in_a_line(PROGRAM))
        one.say("price high 7")
        self.same(self.kept(other), (None, PRICES))
        other.say("price high 9")
        self.same(one.say("prices"), PRICES.replace("high 1", "high 7"))
        one.say("undo")
        self.same(other.say("undo"), "undone price")
        self.no_desk(other, "undo")
        self.same(one.say("undo"), "undone program")

    def test_a_new_desk(self):
        self.same(self.kept(Desk()), (None, PRICES))


class Keeping(DeskCase):
    def test_program(self):
        desk = Desk()
        for text, answer in [
            ("width 4\nin a plain\nout a", "lines 3 rows 0"), (PROGRAM, "lines 14 rows 5"),
            ("width 8\nin a plain\nrepeat 3\nrepeat 4\na = copy a\nend\na = copy a\nend\nout a", "lines 9 rows 15"),
            ("width 32\nx = set point 3 -2.125\nx = times x 1/3 near\nout x", "lines 4 rows 2"),
        ]:
            self.same(desk.say("program " + in_a_line(text)), answer)
            self.same(desk.say("program"), in_a_line(text))

    def test_no_program(self):
        self.no_desk(Desk(), "program")

    def test_refused_as_read_program_refuses(self):
        desk = self.desk("program " + in_a_line(PROGRAM))
        for text in ("width", "width 3", "width 8", "x", "width 8\nout a", "width 8\nin a plain", "width 8\nin a plain\nin a plain\nout a",
                     "width 8\nin a plain\nout a\nout a", "width 8\nin a plain\nx = div a 0 up\nout x", "width 8\nin a signed\nx = rest a 3\nout x",
                     "width 8\nin a plain\nrepeat 32\nrepeat 32\na = copy a\nend\nend\nout a", "width 8\n" + "x = set plain 1\n" * 60 + "out x"):
            self.refused_alike(desk, "program " + in_a_line(text), read_program, text)

    def test_where_the_three_signs_stand(self):
        desk = Desk()
        for line, text in [
            ("program /", "/"), ("program / width 8", "/ width 8"), ("program width 8 /", "width 8 /"), ("program width 8 / /", "width 8\n/"),
            ("program width 8 / / out a", "width 8\n/ out a"), ("program width 8 / / / out a", "width 8\n/\nout a"), ("program width 8/in a plain", "width 8/in a plain"),
            ("program width 8 /out a", "width 8 /out a"), ("program width 8/ out a", "width 8/ out a"), ("program width 8 // out a", "width 8 // out a"),
        ]:
            self.refused_alike(desk, line, read_program, text)
        self.not_said(desk, "program width 8 / / out a", NoProgram, {"line": 1})
        self.not_said(desk, "program width 8 / in a plain / / / out a", NoProgram, {"line": 2})

    def test_kinds_of_refusals(self):
        desk = Desk()
        self.not_said(desk, "program width 8 / out a", Unknown, {"line": 1, "name": "a"})
        self.not_said(desk, "program width 8 / in a plain / in a plain / out a", Twice, {"line": 2, "name": "a"})
        self.not_said(desk, "program width 8 / in a signed / x = rest a 7 / out x", WrongKind, {"line": 2, "name": "a"})
        self.not_said(desk, "program " + in_a_line("width 8\n" + "x = set plain 1\n" * 60 + "out x"), TooMuch, {"line": 60})

    def test_price(self):
        desk = Desk()
        wanted = {word: 1 for word in WORDS}
        for word in WORDS:
            for number in (0, 1, 7, 999, 1000):
                self.same(desk.say(f"price {word} {number}"), f"{word} {number}")
                wanted[word] = number
                self.same(desk.say("prices"), " ".join(f"{key} {wanted[key]}" for key in WORDS))

    def test_price_refused(self):
        desk = self.desk("price set 5")
        for line in ("price set 1001", "price set -1", "price set 01", "price set 00", "price set", "price", "price 5", "price 5 set", "price Set 5",
                     "price sett 5", "price set 5 5", "price set 1.5", "price set x", "price set +5", "price set " + FORTY, "price set " + FORTY + "9",
                     "price end 5", "price x 5", "price set 5 copy 5", "price set 1/1", "prices set", "prices 5"):
            self.no_desk(desk, line)


class Undoing(DeskCase):
    def test_to_the_first_then_none(self):
        desk, states = Desk(), []
        lines = ["price set 5", "program " + in_a_line(PROGRAM), "price set 5", "price high 0", "program width 4 / in a plain / out a", "price set 6",
                 "program " + in_a_line(PROGRAM), "program " + in_a_line(PROGRAM)]
        for line in lines:
            states.append(self.kept(desk))
            desk.say(line)
        for line, state in reversed(list(zip(lines, states))):
            self.same(desk.say("undo"), "undone " + line.split(" ")[0])
            self.same(self.kept(desk), state)
        self.no_desk(desk, "undo")
        self.no_desk(desk, "undo")
        self.same(self.kept(desk), (None, PRICES))

    def test_what_is_taken_back_is_not_kept_any_more(self):
        desk = self.desk("price set 2", "price set 3", "undo", "price set 4")
        self.same(desk.say("undo"), "undone price")
        self.same(desk.say("prices"), PRICES.replace("set 1", "set 2"))
        self.same(desk.say("undo"), "undone price")
        self.no_desk(desk, "undo")

    def test_other_lines_are_not_taken_back(self):
        desk = self.desk("price set 2", "program " + in_a_line(PROGRAM))
        for line in Lines.SOME:
            if line.split(" ")[0] not in ("price", "undo") and not line.startswith("program "):
                desk.say(line)
        for line in ("price set 1001", "program width 3", "run a=1", "undo 1", "x"):
            with self.assertRaises(WiseError):
                desk.say(line)
        self.same(desk.say("undo"), "undone program")
        self.same(desk.say("undo"), "undone price")
        self.no_desk(desk, "undo")

    def test_two_hundred_lines(self):
        desk, states = Desk(), []
        for many in range(200):
            states.append(self.kept(desk))
            desk.say(f"price {WORDS[many % 16]} {many}" if many % 3 else f"program width {4 + many % 29} / in a plain / out a")
        for many in reversed(range(200)):
            self.same(desk.say("undo"), "undone price" if many % 3 else "undone program")
            self.same(self.kept(desk), states[many])
        self.no_desk(desk, "undo")

    def test_drawn_lines(self):
        source = random.Random(112)
        for many in range(20):
            desk, past = Desk(), []
            for some in range(60):
                now = self.kept(desk)
                if source.random() < 0.4:
                    if past:
                        word, state = past.pop()
                        self.same(desk.say("undo"), "undone " + word)
                        self.same(self.kept(desk), state)
                    else:
                        self.no_desk(desk, "undo")
                elif source.random() < 0.5:
                    past.append(("price", now))
                    desk.say(f"price {source.choice(WORDS)} {source.randrange(1001)}")
                else:
                    past.append(("program", now))
                    desk.say("program " + in_a_line(Drawing(source, 8).text(3)))


class Runs(DeskCase):
    WITH_PUTS = ("run", "machine", "trace", "exact")

    def test_without_a_program(self):
        for word in self.WITH_PUTS:
            for line in (word, word + " a=1", word + " a", word + " =", word + " a=x"):
                self.no_desk(Desk(), line)
                self.no_desk(self.desk("program " + in_a_line(PROGRAM), "undo"), line)

    def test_told_by_hand(self):
        desk = self.desk("program " + in_a_line(PROGRAM))
        for word in ("run", "machine"):
            self.same(desk.say(word + " a=200 s=-100 p=1.5"), "q=20 r=0 x=144 t=-5 m=2.25 5:round")
            self.same(desk.say(word + " a=99 s=0 p=-8"), "q=9 r=9 x=198 t=0 m=7.9375 8:stop")
            self.same(desk.say(word + " a=100 s=7 p=0.0625"), "q=10 r=0 x=200 t=0 m=0")
        self.same(desk.say("trace a=200 s=-100 p=1.5"), "4:q=20 4:r=0 5:x=144 6:s=-14 7:t=-5 8:m=2.25")
        self.same(desk.say("exact a=100 s=-100 p=-1.5"), "q=10/1 r=0/1 x=200/1 t=-100/21 m=9/4")
        self.same(desk.say("exact a=200 s=-100 p=1.5"), "none")
        desk = self.desk("program width 8 / in a plain / in b plain / x = over a b / b = add a a / out b / out x")
        self.same(desk.say("run a=200 b=0"), "b=144 x=255 3:nothing 4:round")
        self.same(desk.say("machine a=200 b=0"), "b=144 x=255 3:nothing 4:round")

    def test_inputs_in_any_order(self):
        desk = self.desk("program " + in_a_line(PROGRAM))
        for word in self.WITH_PUTS:
            answer = desk.say(word + " a=1 s=-2 p=3.5")
            for puts in ("s=-2 a=1 p=3.5", "p=3.5 s=-2 a=1", "p=3.5 a=1 s=-2"):
                self.same(desk.say(f"{word} {puts}"), answer)

    def test_without_inputs_and_without_rows(self):
        desk = self.desk("program width 8 / x = set signed -3 / out x")
        self.same([desk.say(word) for word in self.WITH_PUTS], ["x=-3", "x=-3", "1:x=-3", "x=-3/1"])
        desk = self.desk("program width 8 / in a point 3 / in b plain / out b / out a")
        self.same([desk.say(word + " a=-0.125 b=7") for word in self.WITH_PUTS], ["b=7 a=-0.125", "b=7 a=-0.125", "none", "b=7/1 a=-1/8"])

    def test_words_that_are_no_puts(self):
        desk = self.desk("program " + in_a_line(PROGRAM))
        for word in self.WITH_PUTS:
            for puts in ("a", "a=1 a=1", "a=1 a=2", "a=1 s=2 p=3 a=1", "x=1", "A=1", "a=1 s=2 p=3 x=1", "=1", "=", "a=1 s=2 p=3 q", "a:1", "aa=1",
                         "a=1 s=2 p=3 =", "1=a", "a=1 s=2 p=3 q=1", "/ a=1", "a=300 a=300", "a=x b=1", "a=x a"):
                self.no_desk(desk, f"{word} {puts}")

    def test_figures_that_no_kind_shows(self):
        desk = self.desk("program " + in_a_line(PROGRAM))
        for word in self.WITH_PUTS:
            for puts, found in [
                ("a=256 s=1 p=1", "256"), ("a=-1 s=1 p=1", "-1"), ("a= s=1 p=1", ""), ("a=01 s=1 p=1", "01"), ("a=1.5 s=1 p=1", "1.5"),
                ("a=1 s=128 p=1", "128"), ("a=1 s=-129 p=1", "-129"), ("a=1 s=-0 p=1", "-0"), ("a=1 s=1 p=0.03125", "0.03125"),
                ("a=1 s=1 p=1.0", "1.0"), ("a=1 s=1 p=.5", ".5"), ("a=1=2 s=1 p=1", "1=2"), ("a==1", "=1"), ("a=" + FORTY + "9", FORTY + "9"),
                ("s=x a=y p=z", "x"), ("p=z s=x a=y", "z"), ("a=1 s=x", "x"), ("s=x", "x"), ("p=1 s=1 a=+1", "+1"), ("a=/ s=1 p=1", "/"),
                ("a=" + "1" * 3000, "1" * 3000),
            ]:
                self.not_said(desk, f"{word} {puts}", NoText, {"found": found})

    def test_one_lacking(self):
        desk = self.desk("program " + in_a_line(PROGRAM))
        for word in self.WITH_PUTS:
            for puts, name in [("", "a"), (" s=1", "a"), (" p=1", "a"), (" a=1", "s"), (" a=1 p=1", "s"), (" a=1 s=1", "p"), (" s=1 a=1", "p"), (" p=1 s=1", "a")]:
                self.not_said(desk, word + puts, NoInput, {"name": name})

    def test_too_much(self):
        text = "width 32\nin a plain\nrepeat 32\na = right a 31\nend\nrepeat 32\na = right a 31\nend\na = right a 15\na = right a {}\nout a"
        desk = self.desk("program " + in_a_line(text.format(0)))
        self.same(desk.say("exact a=1"), f"a=1/{2 ** 1999}")
        desk = self.desk("program " + in_a_line(text.format(1)))
        self.not_said(desk, "exact a=1", TooMuch, {"line": 9})
        self.same(desk.say("exact a=2"), f"a=1/{2 ** 1999}")
        self.same(desk.say("run a=1"), "a=0")

    def test_drawn_programs(self):
        source = random.Random(113)
        for many in range(120):
            drawing = Drawing(source, source.choice([4, 5, 8, 31, 32]))
            text = drawing.text(8)
            program, inputs = read_program(text), drawing.inputs()
            kinds = dict(program.names())
            desk = self.desk("program " + in_a_line(text), *[f"price {source.choice(WORDS)} {source.randrange(1001)}" for some in range(3)])
            puts = [f"{name}={kinds[name].shown(bits)}" for name, bits in inputs.items()]
            source.shuffle(puts)
            puts = " ".join(puts)
            outs, marks = run(program, inputs)
            wanted = " ".join([f"{name}={kinds[name].shown(outs[name])}" for name in program.outs] + [f"{line}:{mark}" for line, mark in marks])
            self.same(desk.say("run " + puts), wanted)
            self.same(desk.say("machine " + puts), wanted)
            wanted = " ".join(f"{line}:{name}={kinds[name].shown(bits)}" for line, name, bits in trace(program, inputs))
            self.same(desk.say("trace " + puts), wanted or "none")
            found = exact_run(program, inputs)
            wanted = "none" if found is None else " ".join(f"{name}={found[name][0]}/{found[name][1]}" for name in program.outs)
            self.same(desk.say("exact " + puts), wanted)

    def test_the_widest_run(self):
        desk = self.desk("program width 32 / in a signed / repeat 30 / repeat 20 / a = times a 1234567891/2147483647 near / end / end / out a")
        self.same(counted(desk.say, "machine a=-2147483648", most=8_000_000), counted(desk.say, "run a=-2147483648"))


class OfTheProgram(DeskCase):
    def test_without_a_program(self):
        for line in ("cost", "rows", "papers", "bound a", "bound"):
            self.no_desk(Desk(), line)
            self.no_desk(self.desk("program " + in_a_line(PROGRAM), "undo"), line)

    def test_forms_of_the_lines(self):
        desk = self.desk("program " + in_a_line(PROGRAM))
        for line in ("cost a", "rows 1", "papers 4", "bound", "bound a b"):
            self.no_desk(desk, line)

    def test_no_rows(self):
        desk = self.desk("program width 8 / in a plain / out a")
        self.same([desk.say(line) for line in ("cost", "rows", "papers", "bound a")], ["0", "none", "none", "0/1"])

    def test_no_papers(self):
        desk = self.desk("program width 8 / in a plain / a = copy a / out a")
        self.same(desk.say("papers"), "none")
        self.assertNotEqual(desk.say("rows"), "none")

    def test_told_by_hand(self):
        desk = self.desk("program " + in_a_line(PROGRAM))
        self.same(desk.say("papers"), (
            "4 form scaled 205 3 not shifted 3 at 8 not scaled 26 0 at 69 not scaled 52 1 at 69 not scaled 103 2 at 179 / "
            "6 signed cutting 147 2 not cutting 37 0 at 90 not turned shifted 2 at 4 not cutting 74 1 at 90 / 7 exact 85 85 8"
        ))
        desk = self.desk("program width 8 / in a signed / x = div a 1 cut / y = times a 3/3 up / z = div a 4 cut / w = times a 77/127 up / out x")
        self.same(desk.say("papers"), "2 signed turned shifted 0 / 3 copy / 4 signed turned shifted 2 not cutting 65 0 at 67 / 5 bits")
        self.same(desk.say("bound x"), "1/1")
        desk = self.desk("program width 8 / in a signed / x = div a 3 cut / out x")
        self.same(desk.say("papers"), "2 signed cutting 86 0")
        desk.say("price high 2")
        self.same(desk.say("papers"), "2 signed cutting 86 0 not turned shifted 1 at 2")
        self.same(self.desk("program width 8 / in a plain / a = copy a / out a").say("rows"), "copy a a")

    def papers(self, desk, text, prices):
        parts = []
        for line, paper in made(read_program(text), prices).papers:
            told = choice_told(paper[1], paper[2]) if paper[0] in ("form", "signed") else " ".join(map(str, paper[1:]))
            parts.append(f"{line} {paper[0]} {told}".rstrip(" "))
        return " / ".join(parts) or "none"

    def test_by_the_kept_prices(self):
        source = random.Random(114)
        for many in range(40):
            drawing = Drawing(source, source.choice([4, 8, 32]), ("div", "rest", "part", "times", "add", "mul", "over"))
            text = drawing.text(6)
            program, prices, desk = read_program(text), prices_of(), self.desk("program " + in_a_line(text))
            for some in range(4):
                found = made(program, prices)
                self.same(desk.say("cost"), str(cost_of(program.width, found.steps, prices)))
                self.same(desk.say("rows"), in_a_line(steps_text(found.steps)))
                self.same(steps_text(read_steps(desk.say("rows").replace(" / ", "\n"))), steps_text(found.steps))
                self.same(desk.say("papers"), self.papers(desk, text, prices))
                word, price = source.choice(WORDS), source.choice([0, 3, 1000])
                desk.say(f"price {word} {price}")
                prices[word] = price
        self.same(self.desk("program " + in_a_line(PROGRAM), "price high 0", "undo").say("papers"), self.papers(None, PROGRAM, prices_of()))

    def test_a_change_of_prices_is_seen(self):
        desk = self.desk("program width 8 / in a plain / x = rest a 7 / out x")
        one = [desk.say(line) for line in ("cost", "rows", "papers")]
        for line in ("price high 1000", "price set 1000", "price low 0", "price gap 0"):
            desk.say(line)
        self.assertNotEqual(desk.say("cost"), one[0])
        for line in ("price high 1", "price low 1", "price gap 1", "price set 1"):
            desk.say(line)
        self.same([desk.say(line) for line in ("cost", "rows", "papers")], one)

    def test_bound(self):
        source = random.Random(115)
        for many in range(60):
            drawing = Drawing(source, source.choice([4, 8, 32]))
            text = drawing.text(10)
            program, desk = read_program(text), self.desk("program " + in_a_line(text))
            for name in drawing.kinds:
                bound = bound_of(program, name)
                self.same(desk.say("bound " + name), "none" if bound is None else f"{bound[0]}/{bound[1]}")

    def test_bound_of_any_word(self):
        desk = self.desk("program " + in_a_line(PROGRAM))
        for word in ("z", "A", "aa", "1", "/", "=", "a=1", "width", "none", "-", "x" * 1000):
            self.not_said(desk, "bound " + word, Unknown, {"line": -1, "name": word})
        desk = self.desk("program width 32 / in a plain / a = div a 1 up / a = left a 31 / a = left a 31 / a = left a 31 / out a")
        self.same(desk.say("bound a"), "none")


class Divisors(DeskCase):
    def test_form_and_signed(self):
        for width in (4, 8, 32):
            for d in great_divisors(width)[:: 1 if width < 32 else 7]:
                desk = Desk()
                self.same(desk.say(f"form {width} {d}"), chosen(choose(width, d, prices_of())))
                if d <= 2 ** (width - 1):
                    self.same(desk.say(f"signed {width} {d}"), chosen(signed_choose(width, d, prices_of())))
        desk = self.desk("price high 0", "price right 1000", "price slide 500", "program " + in_a_line(PROGRAM))
        table = prices_of(high=0, right=1000, slide=500)
        for d in (1, 2, 3, 7, 10, 28, 100, 128):
            self.same(desk.say(f"form 8 {d}"), chosen(choose(8, d, table)))
            self.same(desk.say(f"signed 8 {d}"), chosen(signed_choose(8, d, table)))
        self.same(Desk().say("form 8 1"), "shifted 0")
        self.same(Desk().say("signed 8 4"), "turned shifted 2 not cutting 65 0 at 67")
        self.same(Desk().say("signed 8 3"), "cutting 86 0")
        self.same(self.desk("price high 2").say("signed 8 3"), "cutting 86 0 not turned shifted 1 at 2")
        self.same(Desk().say("form 8 6"), "scaled 171 2 not shifted 2 at 4 not scaled 43 0 at 131 not scaled 86 1 at 131")

    def test_refused(self):
        desk = self.desk("program " + in_a_line(PROGRAM))
        for line in ("form", "signed", "inverse"):
            for width in ("0", "3", "33", FORTY):
                for d in ("0", "7", FORTY):
                    self.not_said(desk, f"{line} {width} {d}", NoWidth, {"found": int(width)})
            for d in ("0", "256", FORTY):
                self.not_said(desk, f"{line} 8 {d}", NoDivisor, {"found": int(d)})
            for words in ("8", "", " 8 7 7", "8 x", "x 7", "8 -7", "-8 7", "8 07", "08 7", "8 7/1", "8 " + FORTY + "0", FORTY + "0 7", "8 1.5", "8 +7", "8 \u0667"):
                self.no_desk(desk, f"{line} {words}")
        self.not_said(desk, "signed 8 129", NoDivisor, {"found": 129})
        self.same(desk.say("signed 8 128"), "turned shifted 7 not cutting 3 0 at 86")

    def test_wrong(self):
        desk = Desk()
        for width, d in [(4, 3), (8, 7), (8, 12), (8, 200), (32, 7), (32, 2 ** 31 + 1)]:
            for words, form in [
                ("shifted 2", Shifted(2)), ("scaled 37 0", Scaled(37, 0)), (f"scaled {2 ** 32 - 1} 64", Scaled(2 ** 32 - 1, 64)), ("more 36 0", More(36, 0)),
                ("wide 37 3", Wide(37, 3)), ("early 0 37 0", Early(0, 37, 0)), ("wide 0 1", Wide(0, 1)), ("shifted 64", Shifted(64)),
                ("wide 613566757 3", Wide(613566757, 3)),
            ]:
                found = wrong_word(width, d, form)
                self.same(desk.say(f"wrong {width} {d} {words}"), "none" if found is None else str(found))
        self.same(desk.say("wrong 32 7 wide 613566757 3"), "none")
        self.same(desk.say("wrong 8 12 early 2 86 0"), "none")

    def test_wrong_refused(self):
        desk = self.desk("price set 2")
        for words in ("shifted 65", "scaled 4294967296 99", "wide 3 0", "early 9 1 1", "shifted 3", "early 99 99 99"):
            for width in ("3", "33", FORTY):
                self.not_said(desk, f"wrong {width} 0 {words}", NoWidth, {"found": int(width)})
            for d in ("0", "256", FORTY):
                self.not_said(desk, f"wrong 8 {d} {words}", NoDivisor, {"found": int(d)})
        for words, told in [
            ("shifted 65", ("shifted", 65)), ("shifted " + FORTY, ("shifted", int(FORTY))), ("scaled 4294967296 0", ("scaled", 2 ** 32, 0)),
            ("scaled 0 65", ("scaled", 0, 65)), ("wide 3 0", ("wide", 3, 0)), ("wide 3 65", ("wide", 3, 65)), ("more 1 65", ("more", 1, 65)),
            ("more 4294967296 1", ("more", 2 ** 32, 1)), ("early 65 1 1", ("early", 65, 1, 1)), ("early 1 1 65", ("early", 1, 1, 65)),
            ("early 1 4294967296 1", ("early", 1, 2 ** 32, 1)), ("early 1 37 0", ("early", 1, 37, 0)), ("early 64 37 0", ("early", 64, 37, 0)),
        ]:
            self.not_said(desk, f"wrong 8 7 {words}", NoForm, {"found": told})
        for words in ("shifted", "shifted 1 1", "scaled 1", "scaled 1 1 1", "early 1 1", "early 1 1 1 1", "more 1", "wide 1", "wide 1 1 1", "cutting 1 1",
                      "turned shifted 1", "1", "1 1", "", "Shifted 1", "shifted -1", "shifted 01", "shifted x", "shifted " + FORTY + "1", "scaled 1 -1"):
            self.no_desk(desk, f"wrong 8 7 {words}".rstrip(" "))
            self.no_desk(desk, f"wrong 3 0 {words}".rstrip(" "))
        for line in ("wrong", "wrong 8", "wrong 8 7", "wrong shifted 1", "wrong 8 shifted 1", "wrong x 7 shifted 1", "wrong 8 -7 shifted 1"):
            self.no_desk(desk, line)

    def test_inverse(self):
        desk = Desk()
        for width in (4, 8, 31, 32):
            for d in great_divisors(width):
                found = exact(width, d)
                self.same(desk.say(f"inverse {width} {d}"), f"{found[0]} {found[1]}")
        self.same(desk.say("inverse 32 12"), "2 2863311531")

    def test_multiple(self):
        desk = Desk()
        for d in range(1, 16):
            for x in range(16):
                self.same(desk.say(f"multiple 4 {d} {x}"), "yes" if x % d == 0 else "no")
        for d in great_divisors(32):
            for x in (0, 1, d, 2 ** 32 - 1, (2 ** 32 - 1) // d * d, 2 ** 31, 252):
                self.same(desk.say(f"multiple 32 {d} {x}"), "yes" if is_multiple(32, d, x) else "no")
                self.same(is_multiple(32, d, x), x % d == 0)

    def test_multiple_refused(self):
        desk = self.desk("price set 2")
        for width in ("3", "33", FORTY):
            self.not_said(desk, f"multiple {width} 0 {FORTY}", NoWidth, {"found": int(width)})
        for d in ("0", "256", FORTY):
            self.not_said(desk, f"multiple 8 {d} 256", NoDivisor, {"found": int(d)})
        for x in ("256", FORTY):
            self.not_said(desk, f"multiple 8 7 {x}", NoWord, {"found": int(x)})
        self.same(desk.say("multiple 8 5 255"), "yes")
        for line in ("multiple 8 7", "multiple 8", "multiple", "multiple 8 7 1 1", "multiple 8 7 -7", "multiple 8 7 07", "multiple 8 7 x"):
            self.no_desk(desk, line)


class FractionsAndLongs(DeskCase):
    def test_round(self):
        desk = Desk()
        for way in WAYS:
            for top in list(range(-20, 21)) + [int(FORTY), -int(FORTY)]:
                for bottom in (1, 2, 3, 4, 7, 10 ** 39):
                    self.same(desk.say(f"round {way} {top}/{bottom}"), str(way_of(way).rounded(top, bottom)))
        self.same([desk.say(f"round {way} -7/2") for way in WAYS], ["-4", "-3", "-3", "-4"])
        self.same(desk.say("round near 6/4"), "2")

    def test_round_refused(self):
        desk = self.desk("price set 2")
        for way in ("Down", "x", "7/2", "nearest", "-", "=", "downs", "0"):
            self.not_said(desk, f"round {way} 7/2", NoWay, {"found": way})
            self.not_said(desk, f"round {way} -7/2", NoWay, {"found": way})
            for ratio in ("7/0", "0/0", "-7/0", "7", "7/", "/7", "/", "7/-2", "-0/2", "-/2", "--7/2", "07/2", "7/02", "7/2/1", "+7/2", "7.5/2", "x/2", "7/x",
                          FORTY + "1/2", "7/" + FORTY + "1", "-" + FORTY + "1/2", "7//2", "-00/2"):
                self.no_desk(desk, f"round {way} {ratio}")
        for line in ("round", "round near", "round 7/2", "round near 7 / 2", "round near 7/2 7/2", "round near 7 /2"):
            self.no_desk(desk, line)
        for ratio in ("7/0", "-0/1", "x"):
            self.no_desk(desk, f"round near {ratio}")
        self.same(desk.say("round near 0/7"), "0")

    def test_exactly(self):
        desk = Desk()
        for width in (4, 8, 32):
            for top, bottom in [(0, 1), (1, 1), (1, 2), (1, 3), (2, 3), (2, 6), (7, 15), (5, 11), (10, 15), (14, 15), (3, 13)]:
                found = exact_form(width, top, bottom)
                self.same(desk.say(f"exactly {width} {top}/{bottom}"), "none" if found is None else " ".join(map(str, found)))
        self.same(desk.say("exactly 8 77/127"), "none")
        self.same(desk.say("exactly 32 1/10"), "858993459 858993459 33")

    def test_exactly_refused(self):
        desk = self.desk("price set 2")
        for width in ("3", "33", FORTY):
            self.not_said(desk, f"exactly {width} 5/0", NoWidth, {"found": int(width)})
        for top, bottom in [("1", "0"), ("0", "0"), ("2", "1"), ("1", "256"), ("256", "256"), (FORTY, FORTY), ("1", FORTY)]:
            self.not_said(desk, f"exactly 8 {top}/{bottom}", NoFraction, {"found": (int(top), int(bottom))})
        for line in ("exactly", "exactly 8", "exactly 8 1", "exactly 8 -1/2", "exactly 8 1/-2", "exactly 8 01/2", "exactly 8 1/2 3", "exactly -8 1/2",
                     "exactly 1/2", "exactly 8 1 / 2", "exactly x 1/2", "exactly 3 -1/2", "exactly 8 " + FORTY + "1/2", "exactly 8 1/"):
            self.no_desk(desk, line)

    def test_miss(self):
        desk = Desk()
        for width, top, bottom, row in [
            (32, 1, 10, (3435973837, 0, 35)), (32, 1, 10, (429496730, 0, 32)), (8, 2, 3, (171, 0, 8)), (8, 2, 3, (170, 170, 8)), (8, 5, 3, (0, 0, 0)),
            (8, 0, 1, (255, 999, 3)), (4, 7, 1, (3, 10 ** 20 - 1, 64)), (8, 4, 6, (1, 0, 0)), (8, 10 ** 20 - 1, 10 ** 20 - 1, (1, 2, 0)), (8, 1, 3, (0, 7, 0)),
        ]:
            above, one, below, other = miss_of(width, top, bottom, *row)
            answer = f"{above[0]}/{above[1]} at {one} {below[0]}/{below[1]} at {other}"
            self.same(desk.say(f"miss {width} {top}/{bottom} {row[0]} {row[1]} {row[2]}"), answer)
        self.same(desk.say("miss 32 1/10 3435973837 0 35"), "0/1 at 0 9/10 at 9")
        self.same(desk.say("miss 4 0/1 0 7 0"), "7/1 at 0 -7/1 at 0")

    def test_miss_refused(self):
        desk = self.desk("price set 2")
        twenty_one = "1" + "0" * 20
        for width in ("3", "33", FORTY):
            self.not_said(desk, f"miss {width} 1/0 {FORTY} 0 65", NoWidth, {"found": int(width)})
        for ratio in ("1/0", "0/0", f"1/{twenty_one}", f"{twenty_one}/1"):
            self.not_said(desk, f"miss 8 {ratio} {FORTY} 0 65", NoFraction, {"found": tuple(map(int, ratio.split("/")))})
        for row in (f"{twenty_one} 0 0", f"0 {twenty_one} 0", "0 0 65", f"0 0 {FORTY}"):
            self.not_said(desk, f"miss 8 1/3 {row}", NoForm, {"found": tuple(map(int, row.split(" ")))})
        for line in ("miss", "miss 8", "miss 8 1/3", "miss 8 1/3 1 1", "miss 8 1/3 1 1 1 1", "miss 8 -1/3 1 1 1", "miss 8 1/3 -1 1 1", "miss 8 1/3 1 -1 1",
                     "miss 8 1/3 1 1 -1", "miss 8 1 1 1 1", "miss 8 1 3 1 1 1", "miss 3 1/3 1 01 1", "miss x 1/3 1 1 1", "miss 8 1/3 1/3 1 1"):
            self.no_desk(desk, line)

    def test_corners(self):
        desk = Desk()
        for line in [(7, 2, 2, 3), (0, 5, -5, 7), (100, -3, 7, 11), (2 ** 40, 7 ** 20, -(5 ** 20), 3 ** 20), (2 ** 40, -1, 0, 10 ** 20 - 1), (10, 0, 0, 1), (1, 1, 1, 1)]:
            wanted = " ".join(f"{x},{y}" for x, y in corners(*line))
            self.same(counted(desk.say, "corners " + " ".join(map(str, line))), wanted)
        self.same(desk.say("corners 7 2 2 3"), "0,0 2,2 5,4 7,5")
        self.same(desk.say("corners 3 -1 -1 2"), "0,-1 1,-1 3,-2")

    def test_corners_refused(self):
        desk = self.desk("price set 2")
        great = "1" + "0" * 20
        for line in (f"{2 ** 40 + 1} 1 1 1", f"1 {great} 1 1", f"1 -{great} 1 1", f"1 1 {great} 1", f"1 1 -{great} 1", f"1 1 1 {great}", "1 1 1 0", f"{FORTY} -{FORTY} -{FORTY} 0"):
            self.not_said(desk, "corners " + line, NoLine, {"found": tuple(map(int, line.split(" ")))})
        for line in ("corners", "corners 1", "corners 1 1 1", "corners 1 1 1 1 1", "corners -1 1 1 1", "corners 1 1 1 -1", "corners 1 -0 1 1", "corners 1 1 -0 1",
                     "corners 1 -01 1 1", "corners 01 1 1 1", "corners 1 1/1 1 1", "corners x 1 1 1", "corners 1 1 1 x", f"corners 1 -{FORTY}1 1 1", "corners 1 - 1 1"):
            self.no_desk(desk, line)

    def test_divide(self):
        desk = Desk()
        source = random.Random(116)
        pairs = [(0, 1), (1, 1), (7, 10), (100, 7), (int(FORTY), 1), (int(FORTY), int(FORTY)), (int(FORTY), 10 ** 39), (0, int(FORTY)), (2 ** 64, 2 ** 32 - 1)]
        pairs += [(source.randrange(10 ** source.randrange(1, 41)), source.randrange(1, 10 ** source.randrange(1, 41))) for many in range(60)]
        for width in (4, 5, 8, 32):
            for top, bottom in pairs + [(2 ** (3 * width - 1) - 2 ** (2 * width) + 2 ** (2 * width - 1), 2 ** (2 * width - 1) + 2 ** width - 1)]:
                rows = long_divided(width, words_of(width, top), words_of(width, bottom))[2]
                back = sum(row[2] for row in rows)
                self.same(desk.say(f"divide {width} {top} {bottom}"), f"quotient {top // bottom} rest {top % bottom} back {back}")
        self.same(desk.say("divide 4 1920 143"), "quotient 13 rest 61 back 2")

    def test_divide_refused(self):
        desk = self.desk("price set 2")
        for width in ("3", "33", FORTY):
            self.not_said(desk, f"divide {width} 1 0", NoWidth, {"found": int(width)})
        for top in ("0", "1", FORTY):
            self.not_said(desk, f"divide 8 {top} 0", NothingBy, {})
        for line in ("divide", "divide 8", "divide 8 1", "divide 8 1 1 1", "divide 8 -1 1", "divide 8 1 -1", "divide 8 01 1", f"divide 8 {FORTY}1 1", f"divide 8 1 {FORTY}1",
                     "divide 8 1/1", "divide x 1 1", "divide 8 1 00", "divide 08 1 1"):
            self.no_desk(desk, line)

    def test_nothing_is_kept_of_them(self):
        desk = self.desk("price set 2", "program " + in_a_line(PROGRAM))
        before = self.kept(desk)
        for line in Lines.SOME[4:]:
            if line != "undo":
                first = desk.say(line)
                self.same(desk.say(line), first)
        self.same(self.kept(desk), before)


if __name__ == "__main__":
    unittest.main()
