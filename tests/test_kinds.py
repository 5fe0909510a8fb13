"""Point 7: kinds of rows go on to kinds of longer rows, and down to lesser depths."""

import unittest

from pickdepths.kinds import Kinds
from tests import reference
from tests.reference import short_rows


class KindsTest(unittest.TestCase):

    def test_equal_numbers_for_rows_that_are_alike_alone(self):
        kinds = Kinds()
        rows = short_rows("ab", 5) + short_rows("abc", 3)
        for depth in range(4):
            numbers = {}
            for row in rows:
                kind = reference.kind(row, depth)
                self.assertEqual(numbers.setdefault(kind, kinds.of_row(row, depth)),
                                 kinds.of_row(row, depth))
            self.assertEqual(len(set(numbers.values())), len(numbers))

    def test_alike(self):
        kinds = Kinds()
        rows = short_rows("ab", 4) + ["c", "cab"]
        for depth in range(4):
            for row in rows:
                for other in rows:
                    self.assertIs(kinds.alike(row, other, depth), reference.alike(row, other, depth))

    def test_a_letter_more(self):
        kinds = Kinds()
        for depth in range(4):
            for row in short_rows("abc", 4):
                kind = kinds.of_row(row, depth)
                for letter in "abd":
                    self.assertEqual(
                        kinds.added_behind(kind, letter), kinds.of_row(row + letter, depth))
                    self.assertEqual(
                        kinds.added_ahead(letter, kind), kinds.of_row(letter + row, depth))

    def test_one_depth_less(self):
        kinds = Kinds()
        for depth in range(1, 5):
            for row in short_rows("ab", 5):
                kind = kinds.of_row(row, depth)
                self.assertEqual(kinds.lesser(kind), kinds.of_row(row, depth - 1))

    def test_the_empty_row(self):
        kinds = Kinds()
        for depth in range(4):
            self.assertEqual(kinds.empty(depth), kinds.of_row("", depth))


if __name__ == "__main__":
    unittest.main()
