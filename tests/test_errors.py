"""Refusals: point 7, and the interface's list of them."""

import unittest

from hintedpoints import errors
from tests.helpers import deep_thing, no_numbers, refusals

ABOVE = {"FontError": ValueError, "Missing": LookupError, "Unknown": KeyError}
FOUND = ("found",)
UNDER_FONT_ERROR = {
    "NoNumber": FOUND, "NoName": FOUND, "NoText": FOUND, "NoPlace": FOUND, "NoWay": FOUND, "NoRound": FOUND,
    "NoOutline": FOUND, "NoPoint": FOUND, "NoProgram": FOUND, "NoWord": FOUND, "NoFont": FOUND, "NoWorths": FOUND,
    "NoLetter": FOUND, "NoParts": FOUND, "NoSize": FOUND, "NoZone": FOUND, "NoCells": FOUND, "NoChoices": FOUND,
    "NoLine": FOUND, "NoLimit": FOUND, "Crossed": ("one", "other"), "TooMany": ("many",), "Deep": ("at",),
    "NoRow": ("at",), "Fault": ("done", "why"),
}
UNDER = {
    errors.FontError: UNDER_FONT_ERROR,
    errors.Missing: {"NoEntry": FOUND, "Unready": ()},
    errors.Unknown: {"NoDefinition": FOUND, "NoSuch": FOUND},
    ZeroDivisionError: {"NoBase": FOUND},
}
ALL = [(getattr(errors, name), above, fields)
       for above, table in UNDER.items() for name, fields in table.items()]


class Classes(unittest.TestCase):
    def test_first_three_stand_under_errors_of_python(self):
        for name, above in ABOVE.items():
            self.assertEqual(getattr(errors, name).__bases__, (above,), name)

    def test_each_refusal_stands_straight_under_its_class(self):
        for kind, above, _ in ALL:
            self.assertEqual(kind.__bases__, (above,), kind)

    def test_no_other_class_is_there(self):
        there = {name for name, thing in vars(errors).items() if isinstance(thing, type)}
        self.assertEqual(there, set(ABOVE) | {kind.__name__ for kind, _, _ in ALL})

    def test_none_stands_under_another_one_but_so(self):
        own = [getattr(errors, name) for name in ABOVE] + [kind for kind, _, _ in ALL]
        for kind, above, _ in ALL:
            over_it = [other for other in own if other is not kind and issubclass(kind, other)]
            self.assertEqual(over_it, [above] if above in own else [], kind)

    def test_each_class_is_made_by_a_def_of_its_own(self):
        for kind, _, _ in ALL:
            self.assertIn("__init__", vars(kind), kind)


class Fields(unittest.TestCase):
    def test_fields_are_the_very_things_by_their_places(self):
        for kind, _, fields in ALL:
            for thing in no_numbers() + [3, (1, 2)]:
                things = [thing, [thing]][:len(fields)]
                made = kind(*things)
                self.assertEqual(len(vars(made)), len(fields), kind)
                for field, wanted in zip(fields, things):
                    self.assertIs(getattr(made, field), wanted, kind)

    def test_fields_are_the_very_things_by_their_names_in_any_order(self):
        for kind, _, fields in ALL:
            things = {field: deep_thing() for field in reversed(fields)}
            made = kind(**things)
            for field in fields:
                self.assertIs(getattr(made, field), things[field], kind)

    def test_fields_are_not_told_of_the_wrong_one(self):
        crossed = errors.Crossed(1, 2)
        self.assertEqual((crossed.one, crossed.other), (1, 2))
        fault = errors.Fault(7, "lack")
        self.assertEqual((fault.done, fault.why), (7, "lack"))

    def test_a_thing_is_kept_itself_and_not_as_a_copy(self):
        thing = [1, [2]]
        made = errors.NoZone(thing)
        thing[1].append(3)
        self.assertEqual(made.found, [1, [2, 3]])

    def test_unready_is_made_of_nothing(self):
        self.assertEqual(vars(errors.Unready()), {})
        self.assertRaises(TypeError, errors.Unready, 1)

    def test_each_is_made_of_just_so_many_things(self):
        for kind, _, fields in ALL:
            self.assertRaises(TypeError, kind, *range(len(fields) + 1))
            if fields:
                self.assertRaises(TypeError, kind, *range(len(fields) - 1))

    def test_refusals_of_refusals(self):
        for thing in refusals():
            self.assertIs(errors.NoNumber(errors.NoSuch(thing)).found.found, thing)

    def test_each_can_be_raised_and_caught_by_its_class_and_the_one_above(self):
        for kind, above, fields in ALL:
            for caught in (kind, above):
                with self.assertRaises(caught):
                    raise kind(*fields)


class Texts(unittest.TestCase):
    def test_first_three_are_made_of_a_text(self):
        for name in ABOVE:
            with self.assertRaises(getattr(errors, name)):
                raise getattr(errors, name)("no such thing")

    def test_font_error_and_missing_are_told_as_their_text(self):
        for text in ("no such thing", "", " ", "two\nrows", "{x}", "'", "~" * 40000):
            self.assertEqual(str(errors.FontError(text)), text)
            self.assertEqual(str(errors.Missing(text)), text)


if __name__ == "__main__":
    unittest.main()
