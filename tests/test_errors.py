import unittest

from overwise import errors
from tests.helper import Case

FIELDS = {
    "NoWidth": ["found"], "NoWord": ["found"], "NoKind": ["found"], "NoText": ["found"], "NoWay": ["found"],
    "NoFraction": ["found"], "NoDivisor": ["found"], "NoForm": ["found"], "NoLine": ["found"], "NoLong": ["found"],
    "NoPrices": ["found"], "NoDesk": ["found"], "NoProgram": ["line"], "TooMuch": ["line"],
    "Unknown": ["line", "name"], "WrongKind": ["line", "name"], "Twice": ["line", "name"], "NoInput": ["name"],
    "NoRegister": ["name"], "NoRow": ["place"], "Lesser": [], "NothingBy": [],
}
THINGS = [0, -1, 10 ** 39, True, None, "", "text", [1, [2]], (1, "a"), {"b": 1, "a": [2]}]


class Refusals(Case):
    def test_each_stands_straight_under_wise_error(self):
        self.assertTrue(issubclass(errors.WiseError, ValueError))
        for name in FIELDS:
            kind = getattr(errors, name)
            self.assertEqual(kind.__bases__, (errors.WiseError,), name)
            self.assertEqual(kind.__name__, name)

    def test_none_stands_under_another_one(self):
        for one in FIELDS:
            for other in FIELDS:
                if one != other:
                    self.assertFalse(issubclass(getattr(errors, one), getattr(errors, other)), (one, other))

    def test_fields_are_what_it_was_made_of(self):
        for name, fields in FIELDS.items():
            kind = getattr(errors, name)
            for place in range(len(THINGS)):
                things = [THINGS[(place + step) % len(THINGS)] for step in range(len(fields))]
                self.same(vars(kind(*things)), dict(zip(fields, things)), name)

    def test_a_refusal_of_a_dict_has_its_keys_in_their_order(self):
        found = errors.NoPrices({"z": 1, "a": 2, 0: 3}).found
        self.same(found, {"z": 1, "a": 2, 0: 3})

    def test_each_is_raised_and_taken(self):
        for name, fields in FIELDS.items():
            kind = getattr(errors, name)
            for taken in (kind, errors.WiseError, ValueError):
                with self.assertRaises(taken):
                    raise kind(*fields)

    def test_wise_error_is_made_of_a_text(self):
        error = errors.WiseError("a text")
        self.assertIsInstance(error, ValueError)
        self.assertEqual(str(error), "a text")

    def test_shown_with_any_things(self):
        for name, fields in FIELDS.items():
            kind = getattr(errors, name)
            for thing in THINGS:
                self.assertIsInstance(str(kind(*[thing for field in fields])), str)


if __name__ == "__main__":
    unittest.main()
