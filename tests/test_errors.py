import unittest

from latepatches import errors

NAMES = [
    "InvalidHistoryError", "InvalidPatchError", "InvalidValueError", "InvalidPresentsError", "InvalidShapeError",
    "InvalidNumberError", "InvalidOrderError", "InvalidPieceError", "InvalidStateError", "InvalidTouchesError",
    "InvalidFormatError", "MismatchError", "FullError", "StartedError", "NotRunningError", "OutOfOrderError",
    "EmptyHistoryError",
]


class ErrorsTest(unittest.TestCase):
    def test_the_base_is_a_direct_subclass_of_value_error(self):
        self.assertEqual(errors.LatepatchError.__bases__, (ValueError,))

    def test_the_seventeen_others_are_direct_subclasses_of_the_base(self):
        self.assertEqual(len(set(NAMES)), 17)
        for name in NAMES:
            with self.subTest(name):
                self.assertEqual(getattr(errors, name).__bases__, (errors.LatepatchError,))

    def test_there_are_no_other_errors(self):
        found = [name for name, thing in vars(errors).items() if isinstance(thing, type)]
        self.assertEqual(sorted(found), sorted(NAMES + ["LatepatchError"]))

    def test_each_is_defined_in_this_file_under_its_name(self):
        for name in NAMES + ["LatepatchError"]:
            with self.subTest(name):
                self.assertEqual(getattr(errors, name).__module__, "latepatches.errors")
                self.assertEqual(getattr(errors, name).__name__, name)

    def test_each_is_constructed_with_one_string(self):
        for name in NAMES + ["LatepatchError"]:
            with self.subTest(name):
                error = getattr(errors, name)("some words")
                self.assertEqual(str(error), "some words")
                self.assertIsInstance(error, errors.LatepatchError)
                self.assertIsInstance(error, ValueError)

    def test_none_is_caught_as_another(self):
        for name in NAMES:
            for other in NAMES:
                if name != other:
                    self.assertFalse(issubclass(getattr(errors, name), getattr(errors, other)), (name, other))


if __name__ == "__main__":
    unittest.main()
