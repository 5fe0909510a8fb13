"""What the tests of several files need to ask."""

import unittest

from pickdepths.errors import InvalidQuestion, InvalidRow

# Rows with a sign that is no letter from a to z, and the index of the first one.
BAD_ROWS = (
    ("A", 0), ("aB", 1), ("abZ", 2), ("0", 0), ("a1b2", 1), (" ", 0), ("ab ", 2), ("a b c", 1),
    ("`", 0), ("z{", 1), ("\u00e9", 0), ("aa\u00df", 2), ("a\uff41", 1), ("a\n", 1), ("ab!", 2),
    ("a" * 39 + "-", 39), ("\u0430", 0), ("az\u0000", 2), ("b\u00aa", 1),
)


class CheckingCase(unittest.TestCase):

    def assert_raises_exactly(self, error_class, value, function, /, *args, **named):
        """The call raises an error of this very class, with this value."""
        with self.assertRaises(error_class) as caught:
            function(*args, **named)
        self.assertIs(type(caught.exception), error_class)
        self.assertEqual(caught.exception.value, value)
        self.assertIs(type(caught.exception.value), type(value))

    def assert_checks_rows(self, function, *rest):
        """A function of two rows has the Row check of the first one, then of the other one."""
        for bad, index in BAD_ROWS:
            with self.subTest(function=function.__name__, row=bad):
                self.assert_raises_exactly(InvalidRow, index, function, bad, "ab", *rest)
                self.assert_raises_exactly(InvalidRow, index, function, "ab", bad, *rest)
                self.assert_raises_exactly(InvalidRow, index, function, bad, bad, *rest)
        self.assert_raises_exactly(InvalidRow, 2, function, "ab3", "A", *rest)
        self.assert_raises_exactly(InvalidRow, 0, function, "A", "ab3", *rest)

    def assert_checks_row(self, function, bad, index, *rest):
        """A function of a row and other things has the Row check of the row ahead of all else."""
        self.assert_raises_exactly(InvalidRow, index, function, bad, *rest)

    def assert_no_question(self, wrong, function, /, *args, **named):
        """The call raises InvalidQuestion with the very value that is wrong."""
        with self.assertRaises(InvalidQuestion) as caught:
            function(*args, **named)
        self.assertIs(type(caught.exception), InvalidQuestion)
        self.assertIs(caught.exception.value, wrong)

    def assert_list_of_integers(self, value):
        self.assertIs(type(value), list)
        for item in value:
            self.assertIs(type(item), int)
