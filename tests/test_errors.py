"""PastError and the fourteen exceptions directly below it."""

import unittest

from pastenough import errors
from tests.samples import ANY_VALUES, Unchanged

KEPT_NAMES = {
    errors.NoBranch: "value",
    errors.TooShort: "reach",
    errors.TooLong: "limit",
    errors.TooManyBranches: "limit",
    errors.BadScheme: "value",
    errors.BadCounter: "value",
    errors.BadBranch: "value",
    errors.BadOutcome: "value",
    errors.NoCell: "value",
    errors.BadText: "text",
    errors.BadLine: "line",
}
BARE = (errors.NothingToUndo, errors.NoPredictor, errors.NoTrace)
ALL_KINDS = tuple(KEPT_NAMES) + BARE


def made_errors():
    """One error of each kind, with its class."""
    return [(kind, kind(3)) for kind in KEPT_NAMES] + [(kind, kind()) for kind in BARE]


class ErrorsTest(unittest.TestCase):
    def test_past_error_is_directly_below_value_error(self):
        self.assertEqual(errors.PastError.__bases__, (ValueError,))

    def test_there_are_fourteen_kinds_directly_below_past_error(self):
        self.assertEqual(len(set(ALL_KINDS)), 14)
        for kind in ALL_KINDS:
            with self.subTest(kind=kind):
                self.assertEqual(kind.__bases__, (errors.PastError,))

    def test_past_error_is_created_without_a_value(self):
        with self.assertRaises(ValueError) as caught:
            raise errors.PastError()
        self.assertIs(caught.exception.__class__, errors.PastError)
        for kind in ALL_KINDS:
            self.assertNotIsInstance(caught.exception, kind)

    def test_each_error_is_of_its_own_kind_only(self):
        for kind, error in made_errors():
            with self.subTest(kind=kind):
                self.assertIsInstance(error, errors.PastError)
                self.assertIsInstance(error, ValueError)
                self.assertEqual([other for other in ALL_KINDS if isinstance(error, other)], [kind])

    def test_each_error_can_be_caught_by_its_name_and_by_the_names_above_it(self):
        for kind, error in made_errors():
            for caught_as in (kind, errors.PastError, ValueError):
                with self.subTest(kind=kind, caught_as=caught_as):
                    with self.assertRaises(caught_as) as caught:
                        raise error
                    self.assertIs(caught.exception, error)

    def test_each_error_keeps_any_value_given_by_position(self):
        for kind, name in KEPT_NAMES.items():
            for value in ANY_VALUES:
                with self.subTest(kind=kind, value=value), Unchanged(self, value):
                    self.assertIs(getattr(kind(value), name), value)

    def test_each_error_keeps_any_value_given_by_name(self):
        for kind, name in KEPT_NAMES.items():
            for value in ANY_VALUES:
                with self.subTest(kind=kind, value=value), Unchanged(self, value):
                    self.assertIs(getattr(kind(**{name: value}), name), value)

    def test_a_raised_error_still_keeps_its_value(self):
        for kind, name in KEPT_NAMES.items():
            for value in ANY_VALUES:
                with self.subTest(kind=kind, value=value):
                    with self.assertRaises(kind) as caught:
                        raise kind(value)
                    self.assertIs(getattr(caught.exception, name), value)

    def test_two_errors_of_one_kind_keep_their_own_values(self):
        for kind, name in KEPT_NAMES.items():
            with self.subTest(kind=kind):
                one, other = kind([1]), kind([2])
                self.assertEqual((getattr(one, name), getattr(other, name)), ([1], [2]))

    def test_each_error_has_a_message_whatever_it_keeps(self):
        for kind in KEPT_NAMES:
            for value in ANY_VALUES:
                with self.subTest(kind=kind, value=value):
                    self.assertIsInstance(str(kind(value)), str)
        for kind in BARE:
            self.assertIsInstance(str(kind()), str)


if __name__ == "__main__":
    unittest.main()
