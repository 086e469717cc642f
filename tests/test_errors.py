"""toldlate/errors.py: the classes, their bases and their attributes."""

import inspect
import unittest

from toldlate import errors

ATTRIBUTES = {
    "NoName": {"value": "Page"},
    "NoKind": {"kind": "page"},
    "NoOutcome": {"kind": "page", "outcome": "gone"},
    "NoAny": {"kind": "page"},
    "Short": {"kind": "page", "lacking": 10 ** 40},
    "BelowZero": {},
    "Unending": {"kind": "page"},
    "Heavy": {"kind": "page", "outcome": "two", "word": "second"},
    "Unlike": {"kind": "page", "outcome": "gone"},
    "NotAlive": {"place": 3},
    "Open": {"kind": "page"},
    "NoRun": {"stray": ("a", "b")},
    "NotEnough": {},
    "NotBelow": {},
    "NotDown": {},
    "Beaten": {},
    "BadLine": {"number": 2},
    "NothingDone": {},
}


class TestErrors(unittest.TestCase):

    def test_late_error_is_directly_under_value_error(self):
        self.assertEqual(errors.LateError.__bases__, (ValueError,))

    def test_each_other_class_is_directly_under_late_error_alone(self):
        for name in ATTRIBUTES:
            with self.subTest(name=name):
                own = getattr(errors, name)
                self.assertEqual(own.__bases__, (errors.LateError,))
                self.assertEqual(own.__module__, "toldlate.errors")

    def test_there_are_no_other_classes(self):
        found = {name for name, own in vars(errors).items() if inspect.isclass(own)}
        self.assertEqual(found, set(ATTRIBUTES) | {"LateError"})

    def test_values_by_position(self):
        for name, values in ATTRIBUTES.items():
            with self.subTest(name=name):
                error = getattr(errors, name)(*values.values())
                self.assertEqual(vars(error), values)

    def test_values_by_name(self):
        for name, values in ATTRIBUTES.items():
            with self.subTest(name=name):
                error = getattr(errors, name)(**values)
                self.assertEqual(vars(error), values)

    def test_values_by_name_in_another_order(self):
        error = errors.Heavy(word="any", outcome="list", kind="index")
        self.assertEqual((error.kind, error.outcome, error.word), ("index", "list", "any"))

    def test_no_name_keeps_any_value_as_it_is(self):
        for value in (0, -7, 10 ** 40, "", "Page", True, False, None):
            with self.subTest(value=value):
                self.assertIs(errors.NoName(value).value, value)

    def test_a_list_for_the_set_of_no_run_is_copied(self):
        kinds = ["a", "b"]
        error = errors.NoRun(kinds)
        kinds.append("c")
        self.assertEqual(error.stray, ("a", "b"))

    def test_they_are_raised_and_caught_by_name_and_by_base(self):
        for name, values in ATTRIBUTES.items():
            own = getattr(errors, name)
            for caught in (own, errors.LateError, ValueError):
                with self.subTest(name=name, caught=caught):
                    with self.assertRaises(caught):
                        raise own(*values.values())

    def test_no_class_is_caught_as_another_one(self):
        for name, values in ATTRIBUTES.items():
            error = getattr(errors, name)(*values.values())
            alike = [other for other in ATTRIBUTES
                     if isinstance(error, getattr(errors, other))]
            self.assertEqual(alike, [name])


if __name__ == "__main__":
    unittest.main()
