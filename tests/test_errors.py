"""Point 3: the classes of refusals."""

import unittest

from everyseat import errors
from tests.helper import ERROR_NAMES


class ErrorClasses(unittest.TestCase):
    def test_any_refusal_is_a_value_error(self):
        self.assertEqual(errors.SeatError.__bases__, (ValueError,))

    def test_each_class_stands_straight_under_seat_error(self):
        for name in ERROR_NAMES:
            self.assertEqual(getattr(errors, name).__bases__, (errors.SeatError,), name)
            self.assertEqual(getattr(errors, name).__name__, name)

    def test_no_class_stands_under_another_one(self):
        for name in ERROR_NAMES:
            for other in ERROR_NAMES:
                under = issubclass(getattr(errors, name), getattr(errors, other))
                self.assertEqual(under, name == other, (name, other))

    def test_there_are_ten_and_no_others(self):
        found = [name for name, thing in vars(errors).items() if isinstance(thing, type)]
        self.assertEqual(sorted(found), sorted(ERROR_NAMES + ("SeatError",)))


if __name__ == "__main__":
    unittest.main()
