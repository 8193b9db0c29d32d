"""Point 3: the error classes."""

import unittest

from outagain import errors
from outagain.depots import Depot
from tests.support import PromiseTest

PLACED = ("OutOfRange", "BadDepot", "BadBook", "BadLives", "BadPasses", "BadCrews", "BadWish",
          "BadBounds", "BadNotes", "BadLists", "BadLine")
REASONED = ("NoBook", "GoalLost")


class ErrorsTest(PromiseTest):
    def test_root(self):
        self.assertEqual(errors.OutagainError.__bases__, (ValueError,))

    def test_all_classes(self):
        found = sorted(name for name, value in vars(errors).items() if isinstance(value, type))
        self.assertEqual(found, sorted(PLACED + REASONED + ("NothingLeft", "OutagainError")))

    def test_no_subclass_of_another(self):
        for name in PLACED + REASONED + ("NothingLeft",):
            for other in PLACED + REASONED + ("NothingLeft",):
                kind, another = getattr(errors, name), getattr(errors, other)
                self.assertEqual(issubclass(kind, another), name == other)
            self.assertTrue(issubclass(getattr(errors, name), errors.OutagainError))
            self.assertTrue(issubclass(getattr(errors, name), ValueError))

    def test_at_and_code(self):
        for name in PLACED:
            error = getattr(errors, name)(5, "first")
            self.same((error.at, error.code), (5, "first"))
            self.assertFalse(hasattr(error, "reason"))
            self.assertIsInstance(str(error), str)

    def test_at_and_code_by_name(self):
        for name in PLACED:
            error = getattr(errors, name)(code="days", at=-10 ** 40)
            self.same((error.at, error.code), (-10 ** 40, "days"))

    def test_reason(self):
        for name in REASONED:
            error = getattr(errors, name)(("sum", 8, 7))
            self.same(error.reason, ("sum", 8, 7))
            self.same(getattr(errors, name)(reason=("days",)).reason, ("days",))
            self.assertFalse(hasattr(error, "at") or hasattr(error, "code"))
            self.assertIsInstance(str(error), str)

    def test_nothing_left(self):
        error = errors.NothingLeft()
        self.assertFalse(hasattr(error, "at") or hasattr(error, "code") or hasattr(error, "reason"))

    def test_wrong_number_of_arguments(self):
        for name in PLACED:
            self.assertRaises(TypeError, getattr(errors, name), 5)
        for name in REASONED:
            self.assertRaises(TypeError, getattr(errors, name))

    def test_raised_and_caught_as_value_error(self):
        with self.assertRaises(ValueError):
            Depot(0, 1, [1])


if __name__ == "__main__":
    unittest.main()
