"""What is promised over the whole: the interface, divisions, programs and misses at drawn widths, divisors and programs."""

import importlib
import inspect
import random
import unittest
from fractions import Fraction

from overwise.bounds import bounds
from overwise.choice import candidates, choose, price_of_form
from overwise.corners import is_paper as is_corner_paper
from overwise.corners import paper as corner_paper
from overwise.desk import Desk
from overwise.division import bits_ahead, guess_rows, is_division, long_divided, steps_ahead
from overwise.errors import TooMuch, WiseError
from overwise.exact import exact_quotient, is_multiple, rest_of
from overwise.exactrun import exact_trace
from overwise.forms import corner_words, is_wrong_word
from overwise.machine import check_steps, cost_of, run_steps
from overwise.maker import made
from overwise.miss import exact_form, fits, miss_of
from overwise.papers import is_paper, paper_of
from overwise.plainrun import run, trace
from overwise.program import read_program
from overwise.signs import is_wrong_count, price_of_signed, signed_candidates, signed_choose, signed_corners
from overwise.steptexts import read_steps, steps_text
from tests.helper import TABLES, WAYS, Case, Drawing, bare, by_blocks, drawn_number, edge_words, prices_of, words_of
from tests.test_exactrun import value

# Each file with its functions and classes, each with how many things it takes.
INTERFACE = {
    "words": "is_whole 1 need_width 1 figures_of 2 bits_in 2 sum_of 3 gap_of 3 low_product 3 high_product 3 left 3 right 3 slide 3",
    "kinds": "Plain 1 Signed 1 Pointed 2 same_kind 2",
    "ratios": "is_fraction 1 fraction 2 plus 2 minus 2 times 2 over 2 less 2 by_twos 2 raised 2",
    "ways": "Down 0 Up 0 Cut 0 Near 0 all_ways 0 way_of 1 into 5",
    "prices": "row_words 0 need_prices 1",
    "forms": "need_divisor 2 twos_in 1 brought 2 Shifted 1 Scaled 2 Early 3 More 2 Wide 2 corners_to 2 corner_words 2 reckoning_is_right 3"
             " is_right 3 reckoning_wrong 3 wrong_word 3 is_wrong_word 4",
    "choice": "candidates 2 form_words 1 price_of_form 2 choose 3 why_none 3 line_at 3 least_total 2",
    "signs": "need_signed_divisor 2 Cutting 2 Turned 1 signed_corners_to 3 signed_corners 2 right_for_signed 3 signed_wrong 3 is_wrong_count 4"
             " signed_candidates 2 signed_words 1 price_of_signed 2 signed_choose 3",
    "exact": "rest_of 4 inverse_steps 2 inverse 2 exact 2 exact_quotient 3 turned_right 3 multiple_of 2 is_multiple 3",
    "corners": "height 5 corners 4 falls 4 paper 4 is_paper 5",
    "miss": "greatest 6 least 6 miss_of 6 fits 6 exact_form 3",
    "longs": "is_long 2 long_of 2 number_of 2 long_sum 3 long_gap 3 carries 3 borrows 3 long_compare 3 times_word 3 long_product 3 long_left 3 long_right 3",
    "division": "turn_of 2 steps_ahead 3 bits_ahead 3 guess_rows 4 guess_of 4 long_divided 3 is_division 6 worst 1",
    "program": "read_program 1",
    "plainrun": "run 2 trace 2",
    "steps": "is_register 1 Set 2 Copy 2 Sum 4 Gap 4 Low 3 High 3 Left 3 Right 3 Slide 3 And 3 Or 3 Unlike 3 Under 3 Pick 4 Mark 3 Turns 2",
    "machine": "check_steps 2 run_steps 3 cost_of 3",
    "steptexts": "steps_text 1 read_steps 1",
    "maker": "Made 2 made 2",
    "papers": "paper_of 3 is_paper 4",
    "exactrun": "exact_run 2 exact_trace 2",
    "bounds": "bounds 1 bound_of 2",
    "desk": "Desk 0",
}
CLASSES = {
    "kinds": "Kind", "ways": "Way", "forms": "Form", "signs": "SignedForm", "source": "Row Repeat", "program": "Program", "steps": "Step",
    "errors": "WiseError NoWidth NoWord NoKind NoText NoWay NoFraction NoDivisor NoForm NoLine NoLong NoPrices NoDesk NoProgram TooMuch Unknown"
              " WrongKind Twice NoInput NoRegister NoRow Lesser NothingBy",
}


def cut(x, d):
    return abs(x) // d * (1 if x >= 0 else -1)


class Interface(Case):
    def test_each_name_takes_what_it_is_told_to(self):
        for file, told in INTERFACE.items():
            module = importlib.import_module("overwise." + file)
            words = told.split()
            for name, many in zip(words[::2], words[1::2]):
                thing = getattr(module, name)
                self.same(thing.__module__, "overwise." + file)
                self.same(len(inspect.signature(thing).parameters), int(many), file, name)

    def test_each_class(self):
        for file, told in CLASSES.items():
            module = importlib.import_module("overwise." + file)
            for name in told.split():
                self.assertIsInstance(getattr(module, name), type)
        self.same(list(inspect.signature(Desk.say).parameters), ["self", "line"])

    def test_each_refusal_stands_straight_under_one_class(self):
        errors = importlib.import_module("overwise.errors")
        for name in CLASSES["errors"].split()[1:]:
            self.same(getattr(errors, name).__bases__, (WiseError,))
        self.same(WiseError.__bases__, (ValueError,))


class Divisions(Case):
    def drawn(self, seed, many):
        source = random.Random(seed)
        for some in range(many):
            width = source.randint(4, 32)
            yield source, width, drawn_number(source, 2 ** width - 1), source.choice(TABLES)

    def test_plain_words(self):
        for source, width, d, table in self.drawn(7, 250):
            form, refused = choose(width, d, table)
            order = sorted(candidates(width, d), key=lambda one: price_of_form(one, table))
            told = [one.told() for one in order]
            place = told.index(form.told())
            self.same([one.told() for one, word in refused], told[:place])
            self.same(by_blocks(width, d, form.numbers_in(width)), None)
            # Whoever can multiply and compare checks the form at a few words.
            self.assertTrue(all(form.quotient(width, x) == x // d for x in corner_words(width, d)))
            for one, word in refused:
                self.same(by_blocks(width, d, one.numbers_in(width)), word)
                self.assertIs(is_wrong_word(width, d, one, word), True)
            for x in edge_words(width) + [source.randrange(2 ** width) for some in range(10)]:
                q = form.quotient(width, x)
                self.same(q, x // d)
                self.same(rest_of(width, x, d, q), x % d)
                self.same(is_multiple(width, d, x), x % d == 0)
                self.same(exact_quotient(width, d, q * d), q)

    def test_signed_words(self):
        for source, width, d, table in self.drawn(40, 250):
            d = min(d, 2 ** (width - 1))
            form, refused = signed_choose(width, d, table)
            order = sorted(signed_candidates(width, d), key=lambda one: price_of_signed(one, table))
            told = [one.told() for one in order]
            self.same([one.told() for one, word in refused], told[:told.index(form.told())])
            self.assertTrue(all(form.quotient(width, x) == cut(x, d) for x in signed_corners(width, d)))
            half = 2 ** (width - 1)
            for one, count in refused:
                self.assertNotEqual(one.quotient(width, count), cut(count, d))
                self.assertIs(is_wrong_count(width, d, one, count), True)
            for x in [0, -1, 1, half - 1, -half, d % half, -d, d - 1, 1 - d] + [source.randrange(-half, half) for some in range(10)]:
                self.same(form.quotient(width, x), cut(x, d))

    def test_products_by_fractions(self):
        for source, width, bottom, table in self.drawn(57, 120):
            top = source.randint(0, bottom)
            form = exact_form(width, top, bottom)
            if form is not None:
                self.same(fits(width, top, bottom, *form), None)
                self.same([((form[0] * x + form[1]) >> form[2]) == top * x // bottom for x in edge_words(width)], [True] * len(edge_words(width)))
            factor, total = source.randrange(2 ** width), source.randint(0, 40)
            above, one, below, other = miss_of(width, top, bottom, factor, 0, total)
            for x in edge_words(width) + [one, other] + [source.randrange(2 ** width) for some in range(20)]:
                miss = (factor * x >> total) - Fraction(x * top, bottom)
                self.assertTrue(-Fraction(*below) <= miss <= Fraction(*above))
                self.assertFalse(x < one and miss == Fraction(*above) or x < other and -miss == Fraction(*below))
            line = (2 ** width - 1, factor, 0, 2 ** total)
            self.assertIs(is_corner_paper(*line, corner_paper(*line)), True)

    def test_longs(self):
        for source, width, d, table in self.drawn(60, 120):
            top, bottom = source.randrange(10 ** source.randint(1, 40)), source.randrange(1, 10 ** source.randint(1, 40))
            upper, lower = words_of(width, top), words_of(width, bottom)
            quotient, rest, rows = long_divided(width, upper, lower)
            self.same((quotient, rest), (words_of(width, top // bottom), words_of(width, top % bottom)))
            self.same(len(rows), steps_ahead(width, upper, lower))
            self.same(bits_ahead(width, upper, lower), width * len(rows))
            self.assertTrue(all(0 <= guess - digit <= 2 and back == guess - digit for place, guess, back, digit, left in rows))
            self.assertIs(is_division(width, upper, lower, quotient, rest, rows), True)
            self.same(len(guess_rows(width, 1, 0, 2 ** (width - 1))), width)


class Programs(Case):
    def test_words_marks_and_papers_whatever_the_prices_are(self):
        source = random.Random(8)
        for many in range(250):
            width = source.randint(4, 32)
            drawing = Drawing(source, width)
            text = drawing.text(10)
            program = read_program(text)
            inputs = [drawing.inputs() for some in range(2)]
            wanted = [run(program, one) for one in inputs]
            for table in source.sample(TABLES, 2):
                found = made(program, table)
                self.assertLessEqual(check_steps(width, found.steps), 1_000_000)
                for one, (outs, marks) in zip(inputs, wanted):
                    words, noted, counts = run_steps(width, found.steps, one)
                    self.same(({name: words[name] for name in outs}, noted), (outs, marks), text, one)
                    self.same(cost_of(width, found.steps, table), sum(table[word] * counts[word] for word in table))
                for line, paper in found.papers:
                    self.assertIs(is_paper(program, line, paper, table), True)
                self.same(steps_text(read_steps(steps_text(found.steps))), steps_text(found.steps))

    def test_each_row_that_divides_has_a_paper(self):
        source = random.Random(9)
        for many in range(100):
            program = read_program(Drawing(source, source.randint(4, 32)).text(10))
            lines = [line for line, words in enumerate(program.text().split("\n")) if {"div", "rest", "part", "times"} & set(words.split(" "))]
            self.same([line for line, paper in made(program, prices_of()).papers], lines)
            for line in range(len(program.text().split("\n")) + 1):
                self.same(paper_of(program, line, prices_of()) is not None, line in lines)

    def test_the_desk_tells_the_same(self):
        source = random.Random(10)
        for many in range(60):
            drawing = Drawing(source, source.randint(4, 32))
            desk, program = Desk(), read_program(drawing.text(8))
            desk.say("program " + program.text().replace("\n", " / "))
            for some in range(2):
                puts = " ".join(f"{name}={dict(program.names())[name].shown(bits)}" for name, bits in drawing.inputs().items())
                self.same(desk.say("machine " + puts), desk.say("run " + puts))
                desk.say(f"price {source.choice(list(prices_of()))} {source.randrange(1001)}")


class Misses(Case):
    def test_no_word_lies_farther_from_the_exact_one_than_its_bound(self):
        source = random.Random(11)
        looked = 0
        for many in range(500):
            width = source.randint(4, 32)
            drawing = Drawing(source, width, ("div", "times", "right", "mul", "copy", "pick", "less", "rest", "part", "add", "sub", "left", "addstop"))
            program = read_program(drawing.text(7))
            inputs = {name: source.choice([0, 1, 5, 2 ** width // 7, source.randrange(2 ** width)]) for name in drawing.kinds}
            try:
                exact = exact_trace(program, inputs)
            except TooMuch:
                continue
            told = bounds(program)
            if exact is None:
                self.assertTrue({"round", "stop"} & {mark for line, mark in run(program, inputs)[1]})
                continue
            self.same(len(exact), len(told))
            for put, other, third in zip(trace(program, inputs), exact, told):
                self.same([put[:2], other[:2]], [third[:2], third[:2]])
                if third[3] is not None:
                    looked += 1
                    gap = abs(value(width, drawing.kinds[put[1]], put[2]) - Fraction(*other[2]))
                    self.assertLessEqual(gap, Fraction(*third[3]))
        self.assertGreater(looked, 500)


class Alike(Case):
    def test_the_same_of_objects_that_were_made_alike(self):
        source = random.Random(5)
        for many in range(30):
            drawing = Drawing(source, 8)
            text, inputs = drawing.text(8), drawing.inputs()
            for call, things in ((run, (inputs,)), (trace, (inputs,)), (exact_trace, (inputs,)), (bounds, ()), (made, (prices_of(),))):
                one = bare(call(read_program(text), *things))
                self.same(bare(call(read_program(text), *things)), one)

    def test_ways_are_told_alike(self):
        for way in WAYS:
            program = read_program(f"width 8\nin a signed\nx = div a 7 {way}\nout x")
            self.same(program.rows[0].way, way)
            for a in range(256):
                found = run_steps(8, made(program, prices_of()).steps, {"a": a})[0]["x"]
                self.same(found, run(program, {"a": a})[0]["x"])


if __name__ == "__main__":
    unittest.main()
