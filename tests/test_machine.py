import random
import unittest

from overwise.errors import NoPrices, NoRegister, NoRow, NoWidth, TooMuch
from overwise.kinds import Plain
from overwise.machine import check_steps, cost_of, run_steps
from overwise.steps import (
    And, Copy, Gap, High, Left, Low, Mark, Or, Pick, Right, Set, Slide, Step, Sum, Turns, Under, Unlike,
)
from tests.helper import NO_NUMBERS, NO_TABLES, NO_WIDTHS, TABLES, Case, counted, prices_of

WORDS = "set copy sum gap low high left right slide and or unlike under pick mark turns".split()
NO_NAMES = [thing for thing in NO_NUMBERS if thing != "plain"] + [
    0, 1, -1, 10 ** 39, "A", "0a", "a b", "a_", "abcdefghi", "a\n", "\u00e9", ["a"], ("a",), {"a": "a"}, Set("a", 1),
]
# A good row of each class at width 8, with the places of its fields by what may stand there.
GOOD = [
    (Set, ("a", 255), {"name": [0], "bits": [1]}), (Copy, ("a", "b"), {"name": [0, 1]}),
    (Sum, ("a", "c", "b", "d"), {"name": [0, 2, 3], "carry": [1]}), (Gap, ("a", None, "b", "d"), {"name": [0, 2, 3], "carry": [1]}),
    (Low, ("a", "b", "c"), {"name": [0, 1, 2]}), (High, ("a", "b", "c"), {"name": [0, 1, 2]}),
    (Left, ("a", "b", 7), {"name": [0, 1], "k": [2]}), (Right, ("a", "b", 0), {"name": [0, 1], "k": [2]}),
    (Slide, ("a", "b", 7), {"name": [0, 1], "k": [2]}), (And, ("a", "b", "c"), {"name": [0, 1, 2]}),
    (Or, ("a", "b", "c"), {"name": [0, 1, 2]}), (Unlike, ("a", "b", "c"), {"name": [0, 1, 2]}),
    (Under, ("a", "b", "c"), {"name": [0, 1, 2]}), (Pick, ("a", "b", "c", "d"), {"name": [0, 1, 2, 3]}),
    (Mark, (9999, "nothing", "a"), {"line": [0], "mark": [1], "name": [2]}), (Turns, (64, [Set("a", 1)]), {"times": [0], "steps": [1]}),
]
WRONG = {
    "name": NO_NAMES, "carry": [thing for thing in NO_NAMES if thing is not None], "bits": NO_NUMBERS + [-1, 256, 10 ** 39],
    "k": NO_NUMBERS + [-1, 8, 10 ** 39], "line": NO_NUMBERS + [-1, 10000, 10 ** 39],
    "mark": NO_NUMBERS + [0, 1, "Round", "rounds", "stop ", "none", ["stop"], ("stop",), {"stop": 1}],
    "times": NO_NUMBERS + [0, -1, 65, 10 ** 39], "steps": [thing for thing in NO_NUMBERS if not thing or not isinstance(thing, list)] + [
        0, 1, (Set("a", 1),), {0: Set("a", 1)}, "set a 1", Set("a", 1),
    ],
}


def nested(many, row):
    """A row within so many Turns."""
    for turn in range(many):
        row = Turns(1, [row])
    return row


class Good(Case):
    def test_each_class(self):
        for kind, fields, places in GOOD:
            many = 128 if kind is Turns else 1
            self.same(check_steps(8, [kind(*fields)]), many, kind)
            self.same(check_steps(8, [Set("z", 0), kind(*fields), Set("z", 0)]), many + 2, kind)
        self.same(check_steps(8, [kind(*fields) for kind, fields, places in GOOD]), 15 + 128)

    def test_no_rows(self):
        for width in range(4, 33):
            self.same(check_steps(width, []), 0)
            self.same(run_steps(width, [], {}), ({}, [], {word: 0 for word in WORDS}))

    def test_the_ends_of_each_field(self):
        for width in (4, 5, 31, 32):
            last = 2 ** width - 1
            for row in [
                Set("a", 0), Set("a", last), Left("a", "b", 0), Left("a", "b", width - 1), Right("a", "b", width - 1),
                Slide("a", "b", width - 1), Mark(0, "round", "a"), Mark(9999, "stop", "a"), Mark(5, "nothing", "a"),
                Sum("a", None, "a", "a"), Gap("a", "a", "a", "a"), Copy("abcdefgh", "z9999999"),
            ]:
                self.same(check_steps(width, [row]), 1, row.told())
            for row in [Set("a", last + 1), Left("a", "b", width), Right("a", "b", width), Slide("a", "b", width)]:
                self.refused(NoRow, {"place": 0}, check_steps, width, [row])
            self.same(check_steps(width, [Turns(1, [Set("a", last)])]), 2)
            self.same(check_steps(width, [Turns(64, [Set("a", last)])]), 128)

    def test_how_many_rows_a_run_does(self):
        row = Set("a", 1)
        self.same(check_steps(4, [row] * 4000), 4000)
        self.same(check_steps(4, [Turns(3, [row])]), 6)
        self.same(check_steps(4, [Turns(3, [row, row])]), 9)
        self.same(check_steps(4, [row, Turns(3, [row, Turns(2, [row, row]), row]), row]), 2 + 3 * (1 + 2 + 2 * 3))
        self.same(check_steps(4, [Turns(2, [Turns(3, [Turns(4, [row])])])]), 2 * (1 + 3 * (1 + 4 * 2)))


class Spoilt(Case):
    def each_refused(self, place, width, steps):
        self.refused(NoRow, {"place": place}, check_steps, width, steps)
        self.refused(NoRow, {"place": place}, run_steps, width, steps, {"a": -1, 3: 3})
        self.refused(NoRow, {"place": place}, cost_of, width, steps, None)

    def test_each_field_of_each_class(self):
        good = Copy("a", "b")
        for kind, fields, places in GOOD:
            for told, numbers in places.items():
                for number in numbers:
                    for thing in WRONG[told]:
                        row = kind(*(fields[:number] + (thing,) + fields[number + 1:]))
                        self.refused(NoRow, {"place": 0}, check_steps, 8, [row])
                        self.refused(NoRow, {"place": 2}, check_steps, 8, [good, good, row, None])

    def test_things_that_are_no_rows(self):
        for thing in NO_NUMBERS + [0, 1, "set a 1", ("set", "a", 1), ["set", "a", 1], [Set("a", 1)], (Set("a", 1),), Step()]:
            self.each_refused(0, 8, [thing])
            self.each_refused(1, 8, [Set("a", 1), thing])
            self.each_refused(1, 8, [Turns(2, [thing])])

    def test_no_lists(self):
        for thing in NO_NUMBERS + [0, 1, (Set("a", 1),), (), Set("a", 1), {0: Set("a", 1)}, Turns(2, [Set("a", 1)])]:
            if not isinstance(thing, list):
                self.each_refused(0, 8, thing)

    def test_places_within_turns_and_behind_them(self):
        good, bad = Set("a", 1), Set("a", -1)
        self.each_refused(1, 8, [Turns(2, [bad])])
        self.each_refused(2, 8, [Turns(2, [good, bad])])
        self.each_refused(3, 8, [Turns(2, [good, good]), bad])
        self.each_refused(3, 8, [good, Turns(2, [good, bad, good]), bad])
        self.each_refused(5, 8, [good, Turns(2, [good, good, good]), bad, bad])
        self.each_refused(3, 8, [Turns(2, [good, Turns(2, [bad])])])
        self.each_refused(4, 8, [Turns(2, [good, Turns(2, [good]), bad])])
        self.each_refused(5, 8, [Turns(64, [good, Turns(64, [good]), good]), bad])
        self.each_refused(6, 8, [Turns(2, [Turns(2, [good, good]), Turns(2, [good, bad])]), bad])
        self.each_refused(7, 8, [Turns(2, [Turns(2, [good, good]), Turns(2, [good, good])]), bad])
        self.each_refused(7, 8, [Turns(2, [Turns(2, [good, good]), Turns(2, [good, good])]), Turns(0, [bad])])

    def test_a_turns_is_looked_at_ahead_of_its_things(self):
        bad = Set("a", -1)
        self.each_refused(0, 8, [Turns(0, [bad])])
        self.each_refused(0, 8, [Turns(65, [bad]), bad])
        self.each_refused(0, 8, [Turns(True, [bad])])
        self.each_refused(0, 8, [Turns(2, [])])
        self.each_refused(0, 8, [Turns(2, (bad,))])
        self.each_refused(1, 8, [Turns(2, [Turns(2, [])])])
        self.each_refused(1, 8, [Turns(2, [Turns(0, [bad])])])

    def test_turns_within_turns(self):
        row = Set("a", 1)
        for many in range(1, 6):
            self.same(check_steps(8, [nested(many, row)]), many + 1)
        self.each_refused(5, 8, [nested(6, row)])
        self.each_refused(5, 8, [nested(7, row)])
        self.each_refused(5, 8, [nested(6, None)])
        self.each_refused(6, 8, [row, nested(6, row)])
        self.each_refused(5, 8, [nested(5, None)])
        self.each_refused(7, 8, [nested(5, row), row, None])
        self.each_refused(6, 8, [Turns(1, [row, nested(5, row)])])
        self.same(check_steps(8, [nested(5, row), nested(5, row)]), 12)

    def test_the_first_of_several(self):
        bad = Set("a", -1)
        self.each_refused(1, 8, [Set("a", 1), bad, Turns(0, []), None])
        self.each_refused(0, 8, [bad] + [Turns(64, [Turns(64, [Turns(64, [Turns(64, [Set("a", 1)])])])])])
        self.each_refused(5, 8, [Turns(64, [Turns(64, [Turns(64, [Turns(64, [Set("a", 1)])])])]), bad])

    def test_rows_are_looked_at_by_the_width(self):
        row = Set("a", 200)
        self.same(check_steps(8, [row]), 1)
        self.refused(NoRow, {"place": 0}, check_steps, 7, [row])
        row = Left("a", "b", 6)
        self.same(check_steps(7, [row]), 1)
        self.refused(NoRow, {"place": 0}, check_steps, 6, [row])

    def test_the_width_first(self):
        for thing in NO_WIDTHS:
            for steps in ([], None, [None]):
                self.refused(NoWidth, {"found": thing}, check_steps, thing, steps)
                self.refused(NoWidth, {"found": thing}, run_steps, thing, steps, {3: 3})
                self.refused(NoWidth, {"found": thing}, cost_of, thing, steps, None)


class TooManyRows(Case):
    def rows_of(self, many):
        """A list whose run does so many rows."""
        row, steps = Set("a", 1), []
        for inner in (3999, 61):
            each = 64 * (1 + inner)
            steps += [Turns(64, [row] * inner)] * (many // each)
            many %= each
        return steps + [row] * many

    def test_just_as_many_and_one_more(self):
        for many in (1, 2, 63, 64, 128, 999_999, 1_000_000):
            self.same(check_steps(8, self.rows_of(many)), many)
        for many in (1_000_001, 1_000_002, 2_000_000):
            steps = self.rows_of(many)
            self.refused(TooMuch, {"line": -1}, check_steps, 8, steps)
            self.refused(TooMuch, {"line": -1}, run_steps, 8, steps, {3: 3})
            self.refused(TooMuch, {"line": -1}, cost_of, 8, steps, None)

    def test_a_run_of_a_million_rows(self):
        steps = [Set("one", 1)] + [Turns(50, [Turns(50, [Sum("a", "c", "a", "one")] * 198)])] * 2
        self.same(check_steps(32, steps), 1 + 2 * 50 * (1 + 50 * 199))
        told, marks, counts = run_steps(32, steps, {})
        self.assertEqual(told, {"one": 1, "a": 990_000, "c": 0})
        self.same(sum(counts.values()), 995_101)

    def test_turns_of_turns(self):
        row = Set("a", 1)
        self.refused(TooMuch, {"line": -1}, check_steps, 8, [Turns(64, [Turns(64, [Turns(64, [Turns(64, [Turns(64, [row])])])])])])
        self.refused(TooMuch, {"line": -1}, check_steps, 8, [Turns(64, [Turns(64, [Turns(64, [row] * 3)])])])
        self.same(check_steps(8, [Turns(64, [Turns(64, [Turns(64, [row] * 2)])])]), 64 * (1 + 64 * (1 + 64 * 3)))

    def test_within_the_steps(self):
        steps = [Turns(64, [Turns(64, [Turns(60, [Set("a", 1)] * 2)])])]
        counted(check_steps, 8, steps, most=2000)
        counted(cost_of, 8, steps, prices_of(), most=2000)
        counted(check_steps, 32, [Mark(1, "stop", "a")] * 4000, most=500_000)


class Runs(Case):
    def test_registers_marks_and_counts(self):
        steps = [
            Set("one", 1), Sum("a", "c", "a", "b"), Mark(4, "round", "c"), Turns(2, [Gap("b", "d", "b", "one"), Mark(9, "stop", "d")]),
            Mark(4, "nothing", "zz"), Copy("e", "nix"),
        ]
        handed = {"a": 200, "b": 100, "free": 7}
        told, marks, counts = run_steps(8, steps, handed)
        self.assertEqual(told, {"a": 44, "b": 98, "free": 7, "one": 1, "c": 1, "d": 0, "e": 0})
        self.same(marks, [(4, "round")])
        self.same(counts, {
            "set": 1, "copy": 1, "sum": 1, "gap": 2, "low": 0, "high": 0, "left": 0, "right": 0, "slide": 0, "and": 0, "or": 0,
            "unlike": 0, "under": 0, "pick": 0, "mark": 4, "turns": 2,
        })
        self.same(handed, {"a": 200, "b": 100, "free": 7})
        self.same(run_steps(8, steps, {"b": 1})[1], [(9, "stop")])
        self.same(run_steps(8, steps, {"a": 255, "b": 1})[1], [(4, "round"), (9, "stop")])
        self.same(run_steps(8, steps, {"a": 1, "b": 255})[1], [(4, "round")])
        self.same(run_steps(8, steps, {"a": 1, "b": 0})[1], [(9, "stop")])

    def test_marks_in_the_order_in_which_they_were_put(self):
        steps = [Set("a", 1), Turns(2, [Mark(5, "stop", "a"), Mark(3, "round", "a"), Mark(5, "stop", "a")]), Mark(0, "nothing", "a")]
        wanted = [(5, "stop"), (3, "round"), (5, "stop")] * 2 + [(0, "nothing")]
        self.same(run_steps(8, steps, {})[1], wanted)

    def test_new_each_time(self):
        steps = [Set("a", 1), Mark(5, "stop", "a")]
        self.fresh(run_steps, 8, steps, {"b": 3})
        handed = {"b": 3}
        told = run_steps(8, steps, handed)[0]
        self.assertIsNot(told, handed)
        told["b"] = 9
        self.same(handed, {"b": 3})

    def test_the_rows_stay_as_they_were(self):
        inner = [Set("a", 1), Mark(5, "stop", "a")]
        steps = [Turns(3, inner), Sum("a", "b", "a", "a")]
        kept = [step.told() for step in steps]
        for many in range(2):
            check_steps(8, steps)
            run_steps(8, steps, {"a": 3})
            cost_of(8, steps, prices_of())
            self.same([step.told() for step in steps], kept)
            self.same(len(inner), 2)

    def test_random_rows_against_a_second_machine(self):
        source = random.Random(84)
        for many in range(200):
            width = source.choice([4, 5, 8, 31, 32])
            steps = self.random_rows(source, width, 3)
            handed = {name: source.randrange(2 ** width) for name in source.sample("abcd", source.randrange(5))}
            words, marks, counts = dict(handed), [], {word: 0 for word in WORDS}
            self.second(width, steps, words, marks, counts)
            told = run_steps(width, steps, handed)
            self.assertEqual(told[0], words)
            self.same(told[1], marks)
            self.same(told[2], counts)
            self.same(check_steps(width, steps), sum(counts.values()))
            for table in TABLES:
                self.same(cost_of(width, steps, table), sum(counts[word] * table[word] for word in WORDS))

    def random_rows(self, source, width, deep):
        def name():
            return source.choice("abcd")

        steps = []
        for many in range(source.randrange(1, 9)):
            kind = source.choice([Set, Copy, Sum, Gap, Low, High, Left, Right, Slide, And, Or, Unlike, Under, Pick, Mark, Turns])
            if kind is Turns:
                steps += [Turns(source.randrange(1, 4), self.random_rows(source, width, deep - 1))] if deep else []
            elif kind is Set:
                steps.append(Set(name(), source.choice([0, 1, 2 ** width - 1, source.randrange(2 ** width)])))
            elif kind is Copy:
                steps.append(Copy(name(), name()))
            elif kind in (Sum, Gap):
                steps.append(kind(name(), source.choice(["a", "b", "c", None]), name(), name()))
            elif kind in (Left, Right, Slide):
                steps.append(kind(name(), name(), source.randrange(width)))
            elif kind is Pick:
                steps.append(Pick(name(), name(), name(), name()))
            elif kind is Mark:
                steps.append(Mark(source.randrange(60), source.choice(["round", "stop", "nothing"]), name()))
            else:
                steps.append(kind(name(), name(), name()))
        return steps or [Set("a", 1)]

    def second(self, width, steps, words, marks, counts):
        """The machine once more, by what the rows tell."""
        size = 2 ** width
        for step in steps:
            told = step.told()
            word = told[0]
            if word == "turns":
                for turn in range(told[1]):
                    counts["turns"] += 1
                    self.second(width, step.steps, words, marks, counts)
                continue
            counts[word] += 1
            if word == "set":
                words[told[1]] = told[2]
            elif word == "mark":
                marks += [(told[1], told[2])] if words.get(told[3], 0) else []
            elif word == "pick":
                words[told[1]] = words.get(told[3], 0) if words.get(told[2], 0) else words.get(told[4], 0)
            elif word in ("sum", "gap"):
                a, b = words.get(told[3], 0), words.get(told[4], 0)
                number = a + b if word == "sum" else a - b
                words[told[1]] = number % size
                if told[2] is not None:
                    words[told[2]] = 0 if 0 <= number < size else 1
            elif word == "copy":
                words[told[1]] = words.get(told[2], 0)
            elif word in ("left", "right", "slide"):
                a, k = words.get(told[2], 0), told[3]
                count = a - size if a >= size // 2 else a
                words[told[1]] = {"left": a << k, "right": a >> k, "slide": count >> k}[word] % size
            else:
                a, b = words.get(told[2], 0), words.get(told[3], 0)
                words[told[1]] = {
                    "low": a * b % size, "high": a * b // size, "and": a & b, "or": a | b, "unlike": a ^ b, "under": int(a < b),
                }[word]


class Registers(Case):
    STEPS = [Set("a", 1)]

    def no_register(self, name, registers, width=8):
        self.refused(NoRegister, {"name": name}, run_steps, width, self.STEPS, registers)

    def test_keys_that_are_no_names(self):
        for key in ["", "A", "0a", "abcdefghi", "a b", "a_", " a", "a\n"]:
            self.no_register(key, {key: 1})
            self.no_register(key, {"b": 1, key: 1})

    def test_keys_that_are_no_texts(self):
        for key in [0, 1, -1, None, True, False, (), ("a",), 10 ** 39, (1, (2, "a"))]:
            self.no_register(key, {key: 1})
            self.no_register(key, {"b": 1, key: 1})
            self.no_register(key, {"": 1, "A": -1, key: 1})

    def test_values_that_are_no_words(self):
        for thing in NO_NUMBERS + [-1, 256, 10 ** 39]:
            self.no_register("b", {"b": thing})
            self.no_register("b", {"a": 255, "b": thing, "c": 0})

    def test_the_first_in_order(self):
        self.no_register("b", {"d": -1, "c": -1, "b": -1, "a": 1})
        self.no_register("A", {"b": -1, "A": 1})
        self.no_register("", {"a": -1, "Z": 1, "": 1})
        self.no_register(2, {"a": -1, 2: 1, 1: 1})
        self.no_register(1, {"a": -1, 1: 1, None: 1})
        self.no_register(None, {"": 1, None: 1, 1: 1})
        self.no_register((1,), {"z": 1, (1,): 1, "a": -1, 0: 1})
        self.no_register("0", {"a": -1, "0": 1, "B": 2})
        self.no_register("a1", {"b": -1, "a1": -1, "a2": -1, "a": 0})

    def test_by_the_width(self):
        self.no_register("a", {"a": 16}, width=4)
        run_steps(5, self.STEPS, {"a": 16})
        self.no_register("a", {"a": 2 ** 32}, width=32)
        run_steps(32, self.STEPS, {"a": 2 ** 32 - 1})

    def test_behind_the_rows(self):
        self.refused(NoRow, {"place": 0}, run_steps, 8, [None], {None: 1})
        self.refused(NoRow, {"place": 0}, run_steps, 8, None, {"": 1})

    def test_good_ones(self):
        handed = {"abcdefgh": 255, "z9": 0, "a": 3}
        self.assertEqual(run_steps(8, self.STEPS, handed)[0], {"abcdefgh": 255, "z9": 0, "a": 1})


class Costs(Case):
    def test_told(self):
        steps = [Set("a", 1), Turns(3, [Low("b", "a", "a"), Mark(1, "stop", "z"), Turns(2, [Copy("c", "a")])])]
        self.same(cost_of(8, steps, prices_of()), 1 + 3 * (1 + 1 + 1 + 2 * 2))
        self.same(cost_of(8, steps, prices_of(set=100)), 120 + 1)
        self.same(cost_of(8, steps, prices_of(turns=1000)), 13 + 9 * 1000)
        self.same(cost_of(8, steps, {word: 0 for word in WORDS}), 0)
        self.same(cost_of(8, steps, prices_of(mark=10)), 22 + 27)
        self.same(cost_of(8, [], prices_of()), 0)
        for table in TABLES:
            counts = run_steps(8, steps, {})[2]
            self.same(cost_of(8, steps, table), sum(counts[word] * table[word] for word in WORDS))

    def test_a_table_with_other_keys(self):
        table = {**prices_of(set=7), "other": None, 3: 4}
        kept = dict(table)
        self.same(cost_of(8, [Set("a", 1)], table), 7)
        self.same(table, kept)

    def test_refused(self):
        for thing in NO_TABLES:
            self.refused(NoPrices, {"found": thing}, cost_of, 8, [Set("a", 1)], thing)
            self.refused(NoPrices, {"found": thing}, cost_of, 8, [], thing)
            self.refused(NoRow, {"place": 0}, cost_of, 8, [Plain(4)], thing)


if __name__ == "__main__":
    unittest.main()
