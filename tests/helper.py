"""What the tests have in common: looking at refusals, at kinds of things, and at how many steps an answer takes."""

import copy
import sys
import unittest

from overwise.errors import NothingBy
from overwise.kinds import Plain, Pointed

MOST_STEPS = 2_000_000

# Things of every kind that are no whole numbers.
NO_NUMBERS = [
    True, False, None, "", "0", "4", "plain", [], [4], (), (4,), (1, 2), {}, {4: 4}, {"a": [1, {"b": ()}]},
    [[[[[["deep"]]]]]], Plain(4), Pointed(8, 3), NothingBy(),
]


def same(one, other):
    """Whether two things are equal and of the same kinds all through, dicts with their keys in the same order."""
    if one is other:
        return True
    if type(one) is not type(other):
        return False
    if isinstance(one, (list, tuple)):
        return len(one) == len(other) and all(same(a, b) for a, b in zip(one, other))
    if isinstance(one, dict):
        return same(list(one.items()), list(other.items()))
    return one == other


class TooManySteps(Exception):
    pass


def counted(call, *things, most=MOST_STEPS):
    """The answer of a call, where it comes within so many steps of the package's own rows."""
    left = [most]

    def trace(frame, event, argument):
        if "overwise" not in frame.f_code.co_filename:
            return None
        left[0] -= 1
        if left[0] < 0:
            raise TooManySteps(call)
        return trace

    before = sys.gettrace()
    sys.settrace(trace)
    try:
        return call(*things)
    finally:
        sys.settrace(before)


def bare(thing):
    """A thing with each object of the package written as its class and its fields, so that it can be held against another."""
    if isinstance(thing, (list, tuple)):
        return type(thing)(bare(one) for one in thing)
    if isinstance(thing, dict):
        return {bare(key): bare(value) for key, value in thing.items()}
    if type(thing).__module__.startswith("overwise"):
        return (type(thing).__name__, bare(vars(thing)))
    return thing


class Case(unittest.TestCase):
    def same(self, found, wanted, *told):
        """Found is what is wanted, and of the same kinds: True is no 1, a list is no tuple."""
        self.assertTrue(same(found, wanted), f"found {found!r}, wanted {wanted!r}, of {told!r}")

    def refused(self, kind, fields, call, *things):
        """The call is refused with this very class, which has just these fields, and changes nothing handed in."""
        before = bare(copy.deepcopy(list(things)))
        try:
            answer = call(*things)
        except kind as error:
            self.assertIs(type(error), kind)
            self.same(vars(error), fields, things)
        else:
            self.fail(f"{things!r} was not refused, but answered with {answer!r}")
        self.same(bare(list(things)), before)

    def fresh(self, call, *things):
        """A list or dict that is told is the asker's own: spoiling it leaves the next answer as it was."""
        first = call(*things)
        second = call(*things)
        self.same(bare(first), bare(second), things)
        kept = bare(copy.deepcopy(first))
        inner = self.boxes(second)
        self.assertEqual(len(set(map(id, inner))), len(inner))
        for box in inner:
            self.assertFalse(any(box is other for other in self.boxes(first)))
        for box in inner:
            box.clear()
        self.same(bare(first), kept, things)
        self.same(bare(call(*things)), kept, things)

    def boxes(self, thing):
        """All lists and dicts in an answer."""
        found = [thing] if isinstance(thing, (list, dict)) else []
        if isinstance(thing, (list, tuple)):
            for one in thing:
                found = found + self.boxes(one)
        if isinstance(thing, dict):
            for one in thing.values():
                found = found + self.boxes(one)
        return found
