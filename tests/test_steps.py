import itertools
import unittest

from overwise.kinds import Plain
from overwise.machine import run_steps
from overwise.steps import (
    And, Copy, Gap, High, Left, Low, Mark, Or, Pick, Right, Set, Slide, Step, Sum, Turns, Under, Unlike, is_register,
)
from tests.helper import NO_NUMBERS, Case

CLASSES = {
    "set": Set, "copy": Copy, "sum": Sum, "gap": Gap, "low": Low, "high": High, "left": Left, "right": Right, "slide": Slide,
    "and": And, "or": Or, "unlike": Unlike, "under": Under, "pick": Pick, "mark": Mark, "turns": Turns,
}
FIELDS = {
    "set": "goal bits", "copy": "goal one", "sum": "goal carry one other", "gap": "goal carry one other", "low": "goal one other",
    "high": "goal one other", "left": "goal one k", "right": "goal one k", "slide": "goal one k", "and": "goal one other",
    "or": "goal one other", "unlike": "goal one other", "under": "goal one other", "pick": "goal by one other",
    "mark": "line mark by", "turns": "times steps",
}


def signed(width, a):
    return a - 2 ** width if a >= 2 ** (width - 1) else a


# What each row that makes one word of two words puts.
JOINED = {
    "low": lambda w, a, b: a * b % 2 ** w, "high": lambda w, a, b: a * b // 2 ** w, "and": lambda w, a, b: a & b,
    "or": lambda w, a, b: a | b, "unlike": lambda w, a, b: a ^ b, "under": lambda w, a, b: int(a < b),
}
# What each shift puts.
MOVED = {
    "left": lambda w, a, k: a * 2 ** k % 2 ** w, "right": lambda w, a, k: a // 2 ** k,
    "slide": lambda w, a, k: signed(w, a) // 2 ** k % 2 ** w,
}
ENDS = [0, 1, 2, 2 ** 31 - 1, 2 ** 31, 2 ** 31 + 1, 2 ** 32 - 2, 2 ** 32 - 1, 0xDEADBEEF, 0x12345678]


class Registers(Case):
    def test_names(self):
        for name in ["a", "z", "m", "a0", "a9", "abcdefgh", "a1234567", "z9z9z9z9", "set", "end", "turns", "x"]:
            self.assertIs(is_register(name), True, name)

    def test_other_texts(self):
        for name in ["", "A", "aB", "0", "0a", "9", "abcdefghi", "a12345678", "a b", " a", "a ", "a_", "_a", "a-", "a.", "a\n", "-",
                     "\u00e9", "a\u00e9", "a\u0661", "\u0430", "a" * 8000]:
            self.assertIs(is_register(name), False, name)

    def test_other_things(self):
        for thing in [thing for thing in NO_NUMBERS if thing != "plain"] + [0, 1, 10 ** 39, ["a"], ("a",), {"a": 1}, Set("a", 1)]:
            self.assertIs(is_register(thing), False, thing)

    def test_each_sign(self):
        for code in range(32, 127):
            sign = chr(code)
            self.assertIs(is_register(sign), "a" <= sign <= "z", sign)
            self.assertIs(is_register("a" + sign), "a" <= sign <= "z" or "0" <= sign <= "9", sign)
            self.assertIs(is_register("abcdefg" + sign), "a" <= sign <= "z" or "0" <= sign <= "9", sign)


class Classes(Case):
    def test_what_stands_under_what(self):
        for one in CLASSES.values():
            self.assertTrue(issubclass(one, Step))
            for other in CLASSES.values():
                self.assertEqual(issubclass(one, other), one is other)

    def test_fields_are_what_was_handed_in(self):
        things = [None, True, "x", 5, -1, (1, 2), {"a": 1}, Plain(4), ["a", 1]]
        for word, kind in CLASSES.items():
            names = FIELDS[word].split()
            for first in range(len(things)):
                handed = [things[(first + k) % len(things)] for k in range(len(names))]
                row = kind(*handed)
                self.same(row.word(), word)
                for name, thing in zip(names, handed):
                    found = getattr(row, name)
                    self.assertTrue(found is thing or (word == "turns" and found == thing and type(found) is type(thing)))

    def test_told(self):
        for row, wanted in [
            (Set("a", 3), ("set", "a", 3)), (Copy("a", "b"), ("copy", "a", "b")),
            (Sum("a", "c", "b", "d"), ("sum", "a", "c", "b", "d")), (Sum("a", None, "b", "d"), ("sum", "a", None, "b", "d")),
            (Gap("a", "c", "b", "d"), ("gap", "a", "c", "b", "d")), (Gap("a", None, "b", "d"), ("gap", "a", None, "b", "d")),
            (Low("a", "b", "c"), ("low", "a", "b", "c")), (High("a", "b", "c"), ("high", "a", "b", "c")),
            (Left("a", "b", 0), ("left", "a", "b", 0)), (Right("a", "b", 3), ("right", "a", "b", 3)),
            (Slide("a", "b", 31), ("slide", "a", "b", 31)), (And("a", "b", "c"), ("and", "a", "b", "c")),
            (Or("a", "b", "c"), ("or", "a", "b", "c")), (Unlike("a", "b", "c"), ("unlike", "a", "b", "c")),
            (Under("a", "b", "c"), ("under", "a", "b", "c")), (Pick("a", "d", "b", "c"), ("pick", "a", "d", "b", "c")),
            (Mark(9999, "stop", "a"), ("mark", 9999, "stop", "a")),
            (Turns(64, [Set("a", 3)]), ("turns", 64, [("set", "a", 3)])),
            (Turns(2, [Turns(3, [Copy("a", "b"), Set("c", 0)]), Mark(0, "round", "c")]),
             ("turns", 2, [("turns", 3, [("copy", "a", "b"), ("set", "c", 0)]), ("mark", 0, "round", "c")])),
        ]:
            self.same(row.told(), wanted)
            self.same(row.word(), wanted[0])
            self.fresh(row.told)

    def test_the_list_of_a_turns_is_a_copy(self):
        inner = Set("a", 3)
        handed = [inner]
        row = Turns(2, handed)
        self.assertIsNot(row.steps, handed)
        self.assertIs(type(row.steps), list)
        self.assertIs(row.steps[0], inner)
        handed.append(Set("b", 4))
        handed[0] = None
        self.same(row.told(), ("turns", 2, [("set", "a", 3)]))
        self.same(len(handed), 2)
        other = Turns(2, row.steps)
        self.assertIsNot(other.steps, row.steps)

    def test_what_is_told_is_the_askers_own(self):
        row = Turns(2, [Turns(3, [Set("a", 3)])])
        told = row.told()
        told[2][0][2].clear()
        told[2].clear()
        self.same(row.told(), ("turns", 2, [("turns", 3, [("set", "a", 3)])]))


class Doing(Case):
    """Each row, run by itself."""

    def after(self, width, row, registers):
        before = dict(registers)
        told, marks, counts = run_steps(width, [row], registers)
        self.same(registers, before)
        self.assertEqual(counts, {**{word: 0 for word in CLASSES}, row.word(): 1})
        return told, marks

    def look_at(self, width, row, registers, put):
        told, marks = self.after(width, row, registers)
        self.assertEqual(told, {**registers, **put}, (width, row.told(), registers))
        self.assertTrue(all(type(word) is int for word in told.values()))
        self.same(marks, [])

    def pairs(self):
        for a, b in itertools.product(range(16), range(16)):
            yield 4, a, b
        for a, b in itertools.product(ENDS, ENDS):
            yield 32, a, b

    def test_set_and_copy(self):
        for width, a, b in self.pairs():
            self.look_at(width, Set("x", a), {"y": b}, {"x": a})
            self.look_at(width, Set("x", a), {"x": b}, {"x": a})
            self.look_at(width, Copy("x", "a"), {"a": a, "x": b}, {"x": a})
            self.look_at(width, Copy("a", "a"), {"a": a}, {})

    def test_sum(self):
        for width, a, b in self.pairs():
            size = 2 ** width
            bits, carry = (a + b) % size, (a + b) // size
            for goal, keeps, wanted in [
                ("x", "c", {"x": bits, "c": carry}), ("x", None, {"x": bits}), ("x", "x", {"x": carry}), ("a", "b", {"a": bits, "b": carry}),
                ("b", "a", {"b": bits, "a": carry}), ("a", None, {"a": bits}), ("b", "b", {"b": carry}),
            ]:
                self.look_at(width, Sum(goal, keeps, "a", "b"), {"a": a, "b": b}, wanted)
            self.look_at(width, Sum("a", "c", "a", "a"), {"a": a}, {"a": 2 * a % size, "c": 2 * a // size})

    def test_gap(self):
        for width, a, b in self.pairs():
            bits, carry = (a - b) % 2 ** width, int(a < b)
            for goal, keeps, wanted in [
                ("x", "c", {"x": bits, "c": carry}), ("x", None, {"x": bits}), ("x", "x", {"x": carry}), ("a", "b", {"a": bits, "b": carry}),
                ("b", "a", {"b": bits, "a": carry}), ("b", None, {"b": bits}), ("a", "a", {"a": carry}),
            ]:
                self.look_at(width, Gap(goal, keeps, "a", "b"), {"a": a, "b": b}, wanted)
            self.look_at(width, Gap("a", "c", "a", "a"), {"a": a}, {"a": 0, "c": 0})

    def test_words_joined(self):
        for word, joined in JOINED.items():
            for width, a, b in self.pairs():
                wanted = joined(width, a, b)
                self.look_at(width, CLASSES[word]("x", "a", "b"), {"a": a, "b": b, "x": 3}, {"x": wanted})
                self.look_at(width, CLASSES[word]("a", "a", "b"), {"a": a, "b": b}, {"a": wanted})
                self.look_at(width, CLASSES[word]("b", "a", "b"), {"a": a, "b": b}, {"b": wanted})
            for a in range(16):
                self.look_at(4, CLASSES[word]("a", "a", "a"), {"a": a}, {"a": joined(4, a, a)})

    def test_words_moved(self):
        for word, moved in MOVED.items():
            for width, words in [(4, range(16)), (32, ENDS)]:
                for a in words:
                    for k in range(width):
                        wanted = moved(width, a, k)
                        self.look_at(width, CLASSES[word]("x", "a", k), {"a": a}, {"x": wanted})
                        self.look_at(width, CLASSES[word]("a", "a", k), {"a": a}, {"a": wanted})

    def test_pick(self):
        for width, a, b in self.pairs():
            for by in (0, 1, 2 ** (width - 1), 2 ** width - 1):
                wanted = a if by != 0 else b
                self.look_at(width, Pick("x", "c", "a", "b"), {"a": a, "b": b, "c": by}, {"x": wanted})
                self.look_at(width, Pick("c", "c", "a", "b"), {"a": a, "b": b, "c": by}, {"c": wanted})
            self.look_at(width, Pick("a", "a", "a", "b"), {"a": a, "b": b}, {"a": a if a != 0 else b})
            self.look_at(width, Pick("x", "a", "b", "a"), {"a": a, "b": b}, {"x": b if a != 0 else a})

    def test_mark(self):
        for mark in ("round", "stop", "nothing"):
            for line in (0, 1, 9999):
                for by in (0, 1, 2, 8, 15):
                    told, marks = self.after(4, Mark(line, mark, "a"), {"a": by})
                    self.same(told, {"a": by})
                    self.same(marks, [(line, mark)] if by != 0 else [])
        self.same(self.after(4, Mark(3, "stop", "a"), {}), ({}, []))

    def test_what_was_never_put_holds_nought(self):
        self.look_at(4, Copy("x", "a"), {}, {"x": 0})
        self.look_at(4, Copy("x", "a"), {"x": 9}, {"x": 0})
        self.look_at(4, Gap("x", "c", "a", "b"), {"b": 1}, {"x": 15, "c": 1})
        self.look_at(4, Sum("x", "c", "a", "b"), {}, {"x": 0, "c": 0})
        self.look_at(4, Pick("x", "c", "a", "b"), {"a": 5}, {"x": 0})
        self.look_at(4, Pick("x", "c", "a", "b"), {"b": 5}, {"x": 5})
        self.look_at(4, Under("x", "a", "b"), {"b": 1}, {"x": 1})
        self.look_at(4, Slide("x", "a", 3), {}, {"x": 0})


class Turning(Case):
    def test_rows_done_over_and_over(self):
        rows = [Set("one", 1), Turns(5, [Sum("a", None, "a", "one"), Mark(7, "round", "a")])]
        told, marks, counts = run_steps(4, rows, {"a": 13})
        self.assertEqual(told, {"one": 1, "a": 2})
        self.same(marks, [(7, "round")] * 4)
        self.assertEqual((counts["sum"], counts["mark"], counts["turns"], counts["set"]), (5, 5, 5, 1))

    def test_turns_within_turns(self):
        rows = [Set("one", 1), Turns(3, [Sum("a", None, "a", "one"), Turns(4, [Sum("b", None, "b", "a")])]), Copy("c", "b")]
        told, marks, counts = run_steps(32, rows, {})
        self.assertEqual(told, {"one": 1, "a": 3, "b": 4 * (1 + 2 + 3), "c": 24})
        self.assertEqual((counts["sum"], counts["turns"], counts["copy"]), (15, 3 + 12, 1))

    def test_one_row_many_times_in_a_list(self):
        row = Sum("a", "c", "a", "a")
        told, marks, counts = run_steps(32, [row, row, Turns(2, [row, row]), row], {"a": 1})
        self.assertEqual(told, {"a": 2 ** 7, "c": 0})
        self.assertEqual((counts["sum"], counts["turns"]), (7, 2))


if __name__ == "__main__":
    unittest.main()
