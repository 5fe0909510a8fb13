"""Point 3: the classes of errors, and how each is made."""

import unittest

from pickdepths import errors
from pickdepths.errors import PickError
from tests.reference import NAMES_OF_ERRORS, TWO

CLASSES = [PickError] + [getattr(errors, name) for name in NAMES_OF_ERRORS]

VALUES = (
    0, -1, 10 ** 70, True, None, "", "abc", "{}", b"ab", (), (2, 3), [], [1, [2]], {}, {"a": 1},
    {1, 2}, object(), int, len, ("any",), TWO, ("value",), ValueError("x"), Ellipsis,
)


class Odd:
    """A value that can't be shown or compared."""

    def __eq__(self, other):
        raise AssertionError("compared")

    def __repr__(self):
        raise AssertionError("shown")

    __str__ = __repr__
    __hash__ = None


class ErrorsTest(unittest.TestCase):

    def test_bases(self):
        self.assertEqual(PickError.__bases__, (ValueError,))
        for name in NAMES_OF_ERRORS:
            with self.subTest(name=name):
                self.assertEqual(getattr(errors, name).__bases__, (PickError,))

    def test_there_are_no_other_classes(self):
        found = [name for name, thing in vars(errors).items() if isinstance(thing, type)]
        self.assertEqual(sorted(found), sorted(("PickError",) + NAMES_OF_ERRORS))
        self.assertEqual(len(set(CLASSES)), 12)

    def test_names_and_file(self):
        for name in ("PickError",) + NAMES_OF_ERRORS:
            found = getattr(errors, name)
            self.assertEqual((found.__name__, found.__module__), (name, "pickdepths.errors"))

    def test_value_by_position_and_by_name(self):
        for error_class in CLASSES:
            for value in VALUES + (Odd(),):
                with self.subTest(error=error_class.__name__):
                    self.assertIs(error_class(value).value, value)
                    self.assertIs(error_class(value=value).value, value)

    def test_value_is_kept_when_raised(self):
        for error_class in CLASSES:
            value = [error_class]
            for made in (error_class(value), error_class(value=value)):
                with self.assertRaises(ValueError) as caught:
                    raise made
                self.assertIs(caught.exception.value, value)
                self.assertIs(type(caught.exception), error_class)
            self.assertEqual(value, [error_class])

    def test_each_object_has_a_value_of_its_own(self):
        for error_class in CLASSES:
            first, second = error_class(1), error_class(value=2)
            self.assertEqual((first.value, second.value), (1, 2))
            self.assertIn("value", vars(first))

    def test_exactly_one_argument(self):
        for error_class in CLASSES:
            for args, named in (((), {}), ((1, 2), {}), ((1,), {"value": 1}), ((), {"worth": 1})):
                with self.assertRaises(TypeError):
                    error_class(*args, **named)

    def test_errors_can_be_shown(self):
        for error_class in CLASSES:
            self.assertIs(type(str(error_class(("a", 1)))), str)
            self.assertIs(type(repr(error_class(value=("a", 1)))), str)
            self.assertEqual(str(error_class(value="abc")), str(error_class("abc")))


if __name__ == "__main__":
    unittest.main()
