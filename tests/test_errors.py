"""Section 17 with section 2: the errors."""

import unittest

from tests.odd import odd_values
from wobblesnap import errors

NAMES = (
    "BadBounds", "BadTerm", "Contrary", "BadBook", "NoRule", "BadPlan", "NoPoint", "BadNumber", "BadHands",
    "BadWish", "BadWishes", "TooMany", "NoAxis", "BadDrawing", "BadBay", "NoGrid", "BadStanding", "BadOffers",
    "BadName", "Taken", "BadPlace", "Full", "NothingToUndo", "NothingToRedo", "NoTrial", "BadJournal", "BadSay",
)


def all_errors():
    return [errors.DrawError] + [getattr(errors, name) for name in NAMES]


class Errors(unittest.TestCase):

    def test_each_error_derives_directly_from_draw_error(self):
        for name in NAMES:
            with self.subTest(name):
                error = getattr(errors, name)
                self.assertEqual(error.__bases__, (errors.DrawError,))
                self.assertEqual(error.__name__, name)
                self.assertEqual(error.__module__, "wobblesnap.errors")

    def test_draw_error_derives_directly_from_value_error(self):
        self.assertEqual(errors.DrawError.__bases__, (ValueError,))
        self.assertEqual(errors.DrawError.__module__, "wobblesnap.errors")

    def test_the_errors_are_all_different(self):
        self.assertEqual(len(set(all_errors())), 28)

    def test_the_module_has_no_other_errors(self):
        found = [name for name, thing in vars(errors).items() if isinstance(thing, type)]
        self.assertEqual(sorted(found), sorted(NAMES + ("DrawError",)))

    def test_any_value_is_kept(self):
        for error in all_errors():
            for value in odd_values():
                with self.subTest(error=error, value=value):
                    self.assertIs(error(value).value, value)

    def test_a_value_passed_by_name_is_kept(self):
        for error in all_errors():
            for value in odd_values():
                with self.subTest(error=error, value=value):
                    self.assertIs(error(value=value).value, value)

    def test_a_very_deep_value_is_kept(self):
        value = ()
        for _ in range(50000):
            value = (value,)
        self.assertIs(errors.BadBounds(value).value, value)

    def test_there_is_just_one_argument(self):
        for error in all_errors():
            with self.subTest(error=error):
                with self.assertRaises(TypeError):
                    error()
                with self.assertRaises(TypeError):
                    error(1, 2)

    def test_they_are_raised_and_caught(self):
        for error in all_errors():
            with self.subTest(error=error):
                for base in (error, errors.DrawError, ValueError):
                    with self.assertRaises(base) as caught:
                        raise error((1, "a"))
                    self.assertEqual(caught.exception.value, (1, "a"))

    def test_one_error_is_not_caught_as_another(self):
        for error in all_errors()[1:]:
            for other in all_errors()[1:]:
                self.assertEqual(issubclass(error, other), error is other)
