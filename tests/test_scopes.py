"""Points 4 and 7 for scopes: the kinds of all rows of few letters, and their least rows."""

import unittest
from random import Random

from pickdepths.alike import are_alike
from pickdepths.errors import InvalidRow, InvalidScope
from pickdepths.scopes import kind_count, least_alike, least_rows
from tests import reference
from tests.checking import CheckingCase
from tests.reference import drawn_row, short_rows

# All scopes, and a number of letters that no least row of theirs has.
SCOPES = (
    (1, 0, 2), (1, 1, 4), (1, 2, 6), (1, 3, 10), (1, 4, 18), (2, 0, 2), (2, 1, 4), (2, 2, 9),
    (3, 0, 2), (3, 1, 5), (4, 0, 2), (4, 1, 5),
)
NO_SCOPES = (
    (0, 0), (0, 1), (-1, 0), (-1, -1), (-100, 100), (1, -1), (1, 5), (1, 100), (2, -1), (2, 3), (2, 4),
    (3, -1), (3, 2), (4, -1), (4, 2), (4, 3), (5, 0), (5, 1), (5, -1), (26, 0), (100, 1), (100, -100),
    (4, 4), (3, 3), (3, 4), (1, -100),
)


class KindCountTest(CheckingCase):

    def test_examples_of_the_document(self):
        self.assertEqual([kind_count(1, 3), kind_count(3, 1), kind_count(4, 0)], [8, 8, 1])

    def test_every_scope(self):
        for many, depth, most in SCOPES:
            told = kind_count(many, depth)
            self.assertIs(type(told), int)
            letters = "abcd"[:many]
            kinds = {reference.kind(row, depth) for row in short_rows(letters, most)}
            self.assertEqual(told, len(kinds), (many, depth))

    def test_known_numbers(self):
        self.assertEqual([kind_count(1, depth) for depth in range(5)], [1, 2, 4, 8, 16])
        self.assertEqual([kind_count(many, 1) for many in range(1, 5)], [2, 4, 8, 16])
        self.assertEqual([kind_count(many, 0) for many in range(1, 5)], [1, 1, 1, 1])

    def test_arguments_by_name(self):
        self.assertEqual(kind_count(depth=3, many=1), 8)
        self.assertEqual(kind_count(3, depth=1), 8)

    def test_errors(self):
        for many, depth in NO_SCOPES:
            self.assert_raises_exactly(InvalidScope, (many, depth), kind_count, many, depth)
            self.assert_raises_exactly(
                InvalidScope, (many, depth), kind_count, depth=depth, many=many)


class LeastRowsTest(CheckingCase):

    def test_examples_of_the_document(self):
        self.assertEqual(
            [least_rows(1, 2), least_rows(2, 1)], [["", "a", "aa", "aaa"], ["", "a", "b", "ab"]])

    def test_every_scope(self):
        for many, depth, most in SCOPES:
            told = least_rows(many, depth)
            self.assertEqual(told, reference.least_rows("abcd"[:many], depth, most), (many, depth))
            # Rows of as many letters as were walked through bring no further kind.
            self.assertLess(len(told[-1]), most)

    def test_ascending(self):
        for many, depth, _ in SCOPES:
            told = least_rows(many, depth)
            self.assertEqual(told, sorted(told, key=lambda row: (len(row), row)))
            self.assertEqual(len(told), kind_count(many, depth))

    def test_no_two_are_alike(self):
        for many, depth, _ in SCOPES:
            told = least_rows(many, depth)
            for at, row in enumerate(told):
                for other in told[:at]:
                    self.assertIs(are_alike(row, other, depth), False)

    def test_letters_of_the_scope_alone(self):
        for many, depth, _ in SCOPES:
            signs = set("".join(least_rows(many, depth)))
            self.assertEqual(signs, set("abcd"[:many]) if depth else set())

    def test_the_list_is_new(self):
        told = least_rows(2, 1)
        self.assertIs(type(told), list)
        told.append("c")
        self.assertEqual(least_rows(2, 1), ["", "a", "b", "ab"])

    def test_arguments_by_name(self):
        self.assertEqual(least_rows(depth=1, many=2), ["", "a", "b", "ab"])
        self.assertEqual(least_rows(1, depth=2), ["", "a", "aa", "aaa"])

    def test_errors(self):
        for many, depth in NO_SCOPES:
            self.assert_raises_exactly(InvalidScope, (many, depth), least_rows, many, depth)
            self.assert_raises_exactly(
                InvalidScope, (many, depth), least_rows, depth=depth, many=many)


class LeastAlikeTest(CheckingCase):

    def test_examples_of_the_document(self):
        self.assertEqual(
            [least_alike("bbabab", 2, 1), least_alike("aaaaa", 1, 2)], ["ab", "aaa"])

    def test_short_rows(self):
        for many, depth, most in SCOPES:
            least = {}
            for row in short_rows("abcd"[:many], min(most, 7)):
                first = least.setdefault(reference.kind(row, depth), row)
                self.assertEqual(least_alike(row, many, depth), first, (row, many, depth))

    def test_rows_of_up_to_forty_letters(self):
        drawn = Random(51)
        for many, depth, _ in SCOPES:
            letters = "abcd"[:many]
            rows = least_rows(many, depth)
            for row in [drawn_row(drawn, letters, 40) for _ in range(15)] + [
                    letters[0] * 40, letters[-1] * 40, (letters * 40)[:40], ("a" * 39 + letters[-1])]:
                told = least_alike(row, many, depth)
                self.assertIs(are_alike(row, told, depth), True)
                alike = [least for least in rows if are_alike(row, least, depth)]
                self.assertEqual(alike, [told])

    def test_least_rows_stay(self):
        for many, depth, _ in SCOPES:
            for row in least_rows(many, depth):
                self.assertEqual(least_alike(row, many, depth), row)

    def test_rows_of_one_letter(self):
        for depth in range(5):
            for many in range(41):
                self.assertEqual(least_alike("a" * many, 1, depth), "a" * min(many, 2 ** depth - 1))

    def test_arguments_by_name(self):
        self.assertEqual(least_alike(depth=1, many=2, row="bbabab"), "ab")
        self.assertEqual(least_alike("aaaaa", depth=2, many=1), "aaa")

    def test_no_scopes(self):
        for many, depth in NO_SCOPES:
            for row in ("", "a", "zz", "A"):
                self.assert_raises_exactly(InvalidScope, (many, depth), least_alike, row, many, depth)

    def test_signs_that_are_none_of_the_letters(self):
        for row, many, index in (
                ("b", 1, 0), ("ab", 1, 1), ("aabab", 1, 2), ("c", 2, 0), ("abc", 2, 2), ("abdc", 2, 2),
                ("abcd", 3, 3), ("d", 3, 0), ("abcde", 4, 4), ("e", 4, 0), ("z", 4, 0), ("A", 4, 0),
                ("a ", 4, 1), ("ab1", 2, 2), ("a" * 39 + "b", 1, 39), ("abcdabcdE", 4, 8), ("`", 1, 0),
                ("a{", 3, 1), ("\u00e9", 2, 0), ("a\n", 1, 1), ("ab,", 2, 2)):
            for depth in (0, 1):
                self.assert_raises_exactly(InvalidRow, index, least_alike, row, many, depth)
                self.assert_raises_exactly(
                    InvalidRow, index, least_alike, depth=depth, row=row, many=many)


if __name__ == "__main__":
    unittest.main()
