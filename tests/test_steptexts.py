import random
import unittest

from overwise.errors import NoText
from overwise.kinds import Plain
from overwise.machine import check_steps
from overwise.steps import (
    And, Copy, Gap, High, Left, Low, Mark, Or, Pick, Right, Set, Slide, Sum, Turns, Under, Unlike,
)
from overwise.steptexts import read_steps, steps_text
from tests.helper import NO_NUMBERS, Case, counted

# Each of the sixteen rows with its text.
WRITTEN = [
    (Set("a", 0), "set a 0"), (Set("goal0", 4294967295), "set goal0 4294967295"), (Copy("a", "b"), "copy a b"),
    (Sum("a", "c", "b", "d"), "sum a c b d"), (Sum("a", None, "b", "d"), "sum a - b d"),
    (Gap("a", "a", "a", "a"), "gap a a a a"), (Gap("a1", None, "b2", "d3"), "gap a1 - b2 d3"),
    (Low("a", "b", "c"), "low a b c"), (High("a", "b", "c"), "high a b c"), (Left("a", "b", 0), "left a b 0"),
    (Left("a", "b", 31), "left a b 31"), (Right("a", "b", 10), "right a b 10"), (Slide("a", "b", 7), "slide a b 7"),
    (And("a", "b", "c"), "and a b c"), (Or("a", "b", "c"), "or a b c"), (Unlike("a", "b", "c"), "unlike a b c"),
    (Under("a", "b", "c"), "under a b c"), (Pick("a", "b", "c", "d"), "pick a b c d"),
    (Mark(0, "round", "a"), "mark 0 round a"), (Mark(9999, "stop", "a"), "mark 9999 stop a"),
    (Mark(10, "nothing", "nothing"), "mark 10 nothing nothing"),
    (Turns(1, [Set("a", 1)]), "turns 1\nset a 1\nend"),
    (Turns(64, [Copy("a", "b"), Set("end", 1)]), "turns 64\ncopy a b\nset end 1\nend"),
]


def nested(many, row):
    for turn in range(many):
        row = Turns(turn + 1, [row])
    return row


def told(steps):
    return [step.told() for step in steps]


class Texts(Case):
    def held(self, steps, text):
        """Rows are written as a text, and this is read as such rows."""
        self.same(steps_text(steps), text)
        found = read_steps(text)
        self.same(told(found), told(steps), text)
        self.same([type(step) for step in found], [type(step) for step in steps])
        self.same(steps_text(found), text)
        check_steps(32, found)

    def test_each_row(self):
        for row, text in WRITTEN:
            self.held([row], text)
            self.held([Set("x", 5), row, Copy("x", "y")], "set x 5\n" + text + "\ncopy x y")
        self.same({row.word() for row, text in WRITTEN}, set(
            "set copy sum gap low high left right slide and or unlike under pick mark turns".split()))

    def test_all_behind_one_another(self):
        self.held([row for row, text in WRITTEN], "\n".join(text for row, text in WRITTEN))

    def test_no_rows(self):
        self.same(steps_text([]), "")
        self.same(read_steps(""), [])
        self.assertIsNot(read_steps(""), read_steps(""))

    def test_turns_within_turns(self):
        self.held([nested(5, Set("a", 1))], "turns 5\nturns 4\nturns 3\nturns 2\nturns 1\nset a 1\nend\nend\nend\nend\nend")
        self.held(
            [Turns(2, [Set("a", 1), Turns(3, [Set("b", 2)]), Turns(4, [Set("c", 3), Set("d", 4)])]), Set("e", 5)],
            "turns 2\nset a 1\nturns 3\nset b 2\nend\nturns 4\nset c 3\nset d 4\nend\nend\nset e 5",
        )
        six = "turns 1\n" * 6 + "set a 1" + "\nend" * 6
        self.refused(NoText, {"found": six}, read_steps, six)
        behind = "\n".join(["turns 1\n" * 5 + "set a 1" + "\nend" * 5] * 3)
        self.same(steps_text(read_steps(behind)), behind)

    def test_rows_may_do_more_than_a_run_does(self):
        text = "turns 64\n" * 5 + "set a 1" + "\nend" * 5
        self.same(steps_text(read_steps(text)), text)

    def test_names_that_look_like_words(self):
        self.held([Copy("set", "turns"), Set("end", 3), Mark(1, "stop", "stop")], "copy set turns\nset end 3\nmark 1 stop stop")

    def test_drawn_rows(self):
        source = random.Random(86)
        rows = [row for row, text in WRITTEN]
        for many in range(100):
            steps = source.choices(rows, k=source.randrange(1, 9))
            for turn in range(source.randrange(4)):
                steps = [Turns(source.randrange(1, 9), steps)] + source.choices(rows[:-2], k=source.randrange(3))
            text = steps_text(steps)
            self.held(steps, text)

    def test_long_texts(self):
        text = "\n".join(["sum abcdefgh a1234567 z9999999 bcdefghi"] * 4000)
        self.same(len(counted(read_steps, text, most=3_000_000)), 4000)
        self.same(counted(steps_text, read_steps(text)), text)
        text = "turns 2\n" + "\n".join(["set a 4294967295"] * 3999) + "\nend"
        self.same(steps_text(read_steps(text)), text)


class Refused(Case):
    def no_text(self, text):
        self.refused(NoText, {"found": text}, read_steps, text)

    def test_things_that_are_no_texts(self):
        for thing in NO_NUMBERS + [0, 1, Set("a", 1), [Set("a", 1)], ["set a 1"], ("set a 1",), {"set a 1": 1}, Plain(8)]:
            if not isinstance(thing, str) or thing != "":
                self.no_text(thing)

    def test_blanks(self):
        for row, text in WRITTEN:
            self.no_text(" " + text)
            self.no_text(text + " ")
            self.no_text(text.replace(" ", "  ", 1))
            self.no_text(text[::-1].replace(" ", "  ", 1)[::-1])
            self.no_text(text.replace(" ", "\t", 1))
        for text in (" ", "  ", "turns 2\n set a 1\nend", "turns 2\nset a 1\n end", "turns 2\nset a 1\nend ", "turns 2 \nset a 1\nend"):
            self.no_text(text)

    def test_line_feeds(self):
        for row, text in WRITTEN:
            self.no_text(text + "\n")
            self.no_text("\n" + text)
            self.no_text(text + "\n\n" + text)
        self.no_text("\n")
        self.no_text("set a 1\r\nset b 1")

    def test_noughts_and_signs_ahead_of_a_number(self):
        for text in ("set a 00", "set a 01", "set a -1", "set a +1", "set a -0", "left a b 01", "right a b 00", "slide a b 007",
                     "mark 01 stop a", "mark 00 stop a", "turns 01\nset a 1\nend", "turns +1\nset a 1\nend", "set a 1.0", "set a 0x1",
                     "set a 1_0", "set a \u0661", "set a \u00b2", "set a", "set a ", "left a b", "set a b", "set a -", "left a b -"):
            self.no_text(text)

    def test_numbers_beyond_each_end(self):
        good = ["set a 4294967295", "left a b 31", "right a b 31", "slide a b 31", "mark 9999 stop a", "turns 64\nset a 1\nend",
                "turns 1\nset a 1\nend", "set a 0", "left a b 0", "mark 0 stop a"]
        for text in good:
            self.same(steps_text(read_steps(text)), text)
        for text in ("set a 4294967296", "set a 9999999999", "set a 10000000000", "set a " + "9" * 40, "left a b 32", "right a b 32",
                     "slide a b 32", "mark 10000 stop a", "turns 65\nset a 1\nend", "turns 0\nset a 1\nend"):
            self.no_text(text)

    def test_ends(self):
        for text in ("end", "set a 1\nend", "turns 2\nend", "turns 2\nset a 1", "turns 2", "turns 2\nset a 1\nend\nend",
                     "turns 2\nturns 2\nset a 1\nend", "turns 2\nturns 2\nend\nend", "turns 2\nset a 1\nend 1", "turns 2\nset a 1\nEnd",
                     "end\nturns 2\nset a 1", "turns 2\nturns 2\nset a 1\nend\nend\nend", "turns\nset a 1\nend", "turns 2 2\nset a 1\nend",
                     "turns -\nset a 1\nend", "turns a\nset a 1\nend", "turns 65\nset a 1", "turns\nset a 1", "turns 0", "set a 1\nturns 01",
                     "turns 1\n" * 6 + "set a 1" + "\nend" * 5):
            self.no_text(text)

    def test_words_that_are_none(self):
        for text in ("Set a 1", "SET a 1", "step a 1", "put a 1", "a", "a = set 1", "mul a b c", "sett a 1", "se a 1", "mark 1 Stop a",
                     "mark 1 none a", "mark 1 stops a", "mark stop 1 a", "mark 1 - a", "get a b", "append a b", "0", "-"):
            self.no_text(text)

    def test_names_that_are_none(self):
        for name in ("A", "0a", "a_", "abcdefghi", "-", "\u00e9", "a.", "1", ""):
            for row, text in WRITTEN:
                words = text.split("\n")[0].split(" ")
                for place in range(1, len(words)):
                    if words[place] in ("a", "b", "c", "d") and (words[0] not in ("sum", "gap") or place != 2):
                        self.no_text(" ".join(words[:place] + [name] + words[place + 1:]))
        for name in ("A", "0a", "abcdefghi", "--", "", "None", "none-"):
            self.no_text(f"sum a {name} b c")
            self.no_text(f"gap a {name} b c")

    def test_too_many_words_and_too_few(self):
        for row, text in WRITTEN:
            first, feed, behind = text.partition("\n")
            words = first.split(" ")
            for many in range(len(words)):
                self.no_text(" ".join(words[:many]) + feed + behind if many or feed else " ")
            self.no_text(first + " a" + feed + behind)
            self.no_text(first + " 1" + feed + behind)
            self.no_text(first + " -" + feed + behind)


class New(Case):
    def test_new_rows_and_new_lists(self):
        text = "set a 1\nturns 2\nset b 2\nturns 3\ncopy a b\nend\nend"
        one, other = read_steps(text), read_steps(text)
        self.assertIsNot(one, other)
        self.assertIsNot(one[0], other[0])
        self.assertIsNot(one[1], other[1])
        self.assertIsNot(one[1].steps, other[1].steps)
        self.assertIsNot(one[1].steps[1].steps[0], other[1].steps[1].steps[0])
        one.clear()
        self.same(steps_text(other), text)
        self.same(steps_text(read_steps(text)), text)

    def test_what_is_written_stays_as_it_was(self):
        steps = [row for row, text in WRITTEN]
        before = told(steps)
        steps_text(steps)
        self.same(told(steps), before)
        self.same(len(steps), len(WRITTEN))


if __name__ == "__main__":
    unittest.main()
