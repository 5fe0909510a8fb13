"""Points 4, 6 and 7: rows that are alike to a depth, and what parts them."""

import unittest

from pickdepths.alike import answers, are_alike, classes, parting_depth, winning_picks
from pickdepths.errors import InvalidNumber
from pickdepths.questions import depth_of
from tests import reference
from tests.checking import CheckingCase
from tests.reference import short_rows

FORTY = "a" * 40
TURNS = "ab" * 20


class ExamplesTest(unittest.TestCase):

    def test_examples_of_the_document(self):
        self.assertEqual(
            [are_alike("ab", "ba", 1), are_alike("ab", "ba", 2), parting_depth("aab", "ab"),
             parting_depth("aaa", "aaaa"), parting_depth("ab", "ab"),
             classes(["ab", "ba", "aab", "b"], 1)],
            [True, False, 2, 3, None, [[0, 1, 2], [3]]])
        self.assertEqual(
            [answers("ab", "ba", 1, 0), answers("ab", "ba", 2, 0), answers("aaa", "aaaa", 2, 1),
             winning_picks("aab", "ab", 2), winning_picks("aab", "ab", 1)],
            [[1], [], [1, 2], [(0, 0), (0, 1), (1, 0)], []])


class AreAlikeTest(CheckingCase):

    def test_short_rows_by_the_words_of_point_6(self):
        rows = short_rows("ab", 4)
        for row in rows:
            for other in rows:
                for depth in range(4):
                    self.assertIs(
                        are_alike(row, other, depth), reference.alike(row, other, depth),
                        (row, other, depth))

    def test_longer_rows_of_three_letters(self):
        for row, other in (("abcabc", "acbacb"), ("aabbcc", "abcabc"), ("cabac", "cabbac"),
                           ("abcba", "abccba"), ("zyzzy", "zyzyzzy")):
            for depth in range(5):
                self.assertIs(are_alike(row, other, depth), reference.alike(row, other, depth))
                self.assertIs(are_alike(other, row, depth), reference.alike(row, other, depth))

    def test_equal_rows(self):
        for row in ("", "a", "z", "abc", "pickdepths", FORTY, TURNS):
            for depth in range(7):
                self.assertIs(are_alike(row, row, depth), True)

    def test_the_empty_row(self):
        for row in ("a", "b", "ab", FORTY):
            self.assertIs(are_alike("", row, 0), True)
            self.assertIs(are_alike(row, "", 0), True)
            for depth in range(1, 7):
                self.assertIs(are_alike("", row, depth), False)
                self.assertIs(are_alike(row, "", depth), False)

    def test_depth_0(self):
        for row in ("", "a", "xyz", FORTY):
            for other in ("", "b", "zzz", TURNS):
                self.assertIs(are_alike(row, other, 0), True)

    def test_depth_1_asks_for_the_letters_alone(self):
        self.assertIs(are_alike("abcabcabc", "cba", 1), True)
        self.assertIs(are_alike("abc", "abd", 1), False)
        self.assertIs(are_alike("az", "a", 1), False)

    def test_rows_of_one_letter(self):
        for depth in range(6):
            bound = 2 ** depth - 1
            for many in range(max(0, bound - 3), min(bound + 4, 40) + 1):
                for others in range(max(0, bound - 3), min(bound + 4, 40) + 1):
                    expected = many == others or min(many, others) >= bound
                    self.assertIs(are_alike("c" * many, "c" * others, depth), expected)

    def test_forty_letters_to_depth_6(self):
        self.assertIs(are_alike(FORTY, FORTY[1:], 6), False)
        self.assertIs(are_alike(FORTY, FORTY[1:], 5), True)
        self.assertIs(are_alike(TURNS, TURNS, 6), True)
        self.assertIs(are_alike(TURNS, TURNS[2:], 6), False)
        self.assertIs(are_alike(TURNS, "ba" * 20, 6), False)
        self.assertIs(are_alike("abcdefgh" * 5, "abcdefgh" * 4 + "abcdefhg", 6), False)

    def test_depths_beyond_the_bounds(self):
        self.assertIs(are_alike("aab", "aab", 1000), True)
        self.assertIs(are_alike("aab", "aabb", 1000), False)

    def test_alike_rows_are_alike_to_lesser_depths(self):
        rows = short_rows("ab", 4)
        for row in rows:
            for other in rows:
                told = [are_alike(row, other, depth) for depth in range(6)]
                self.assertEqual(told, sorted(told, reverse=True))

    def test_repeated_rows(self):
        for part in ("a", "ab", "aab", "abc", "abba"):
            for depth in range(4):
                least = 2 ** depth - 1
                for more in (1, 2, 3):
                    self.assertIs(are_alike(part * least, part * (least + more), depth), True)
        self.assertIs(are_alike("ab" * 15, "ab" * 20, 4), True)

    def test_the_game_of_picks(self):
        rows = short_rows("ab", 3) + ["abab", "aaab"]
        for row in rows:
            for other in rows:
                for picks in range(4):
                    self.assertIs(
                        are_alike(row, other, picks), reference.can_last(row, other, picks),
                        (row, other, picks))

    def test_alike_rows_let_the_same_questions(self):
        questions = reference.plain_questions() + [
            reference.some(ahead, letter, behind)
            for ahead in reference.plain_questions() for behind in reference.plain_questions()
            for letter in "ab"]
        depths = [depth_of(question) for question in questions]
        rows = short_rows("ab", 3) + ["aaaa", "abab", "aabb", "baab"]
        let = {row: [reference.lets(row, question) for question in questions] for row in rows}
        for row in rows:
            for other in rows:
                for depth in range(3):
                    if are_alike(row, other, depth):
                        for at, asked in enumerate(depths):
                            if asked <= depth:
                                self.assertIs(let[row][at], let[other][at])

    def test_a_question_parts_rows_that_are_not_alike(self):
        rows = short_rows("ab", 3)
        for row in rows:
            for depth in range(3):
                question = reference.kind_told(row, depth)
                self.assertLessEqual(depth_of(question), depth)
                for other in rows:
                    self.assertIs(
                        reference.lets(other, question), are_alike(row, other, depth),
                        (row, other, depth))

    def test_kinds_of_all_rows(self):
        # Of one letter two to the power of the depth, to depth 1 one for each set of letters.
        for letters, depth, many in (("a", 2, 4), ("a", 3, 8), ("ab", 1, 4), ("abc", 1, 8)):
            kinds = []
            for row in short_rows(letters, 9 if letters == "a" else 4):
                if not any(are_alike(row, other, depth) for other in kinds):
                    kinds.append(row)
            self.assertEqual(len(kinds), many)

    def test_arguments_by_name(self):
        self.assertIs(are_alike(depth=2, other_row="ba", row="ab"), False)
        self.assertIs(are_alike("ab", depth=1, other_row="ba"), True)

    def test_errors(self):
        self.assert_checks_rows(are_alike, 0)
        self.assert_checks_rows(are_alike, 2)
        self.assert_checks_rows(are_alike, -1)
        for depth in (-1, -2, -100):
            self.assert_raises_exactly(InvalidNumber, depth, are_alike, "", "", depth)
            self.assert_raises_exactly(InvalidNumber, depth, are_alike, "ab", "ab", depth)
            self.assert_raises_exactly(
                InvalidNumber, depth, are_alike, depth=depth, row="a", other_row="b")


class PartingDepthTest(CheckingCase):

    def test_short_rows(self):
        rows = short_rows("ab", 4)
        for row in rows:
            for other in rows:
                told = parting_depth(row, other)
                self.assertEqual(told, reference.least_parting_depth(row, other), (row, other))
                if row != other:
                    self.assertIs(type(told), int)

    def test_none_for_equal_rows_alone(self):
        for row in ("", "a", "abcab", FORTY, TURNS):
            self.assertIsNone(parting_depth(row, row))
            self.assertIsNone(parting_depth(row, "".join(list(row))))
        self.assertEqual(parting_depth("", "a"), 1)
        self.assertEqual(parting_depth("a", ""), 1)

    def test_rows_of_forty_letters(self):
        self.assertEqual(parting_depth(FORTY, FORTY[1:]), 6)
        self.assertEqual(parting_depth(FORTY[:31], FORTY), 6)
        self.assertEqual(parting_depth(FORTY[:30], FORTY), 5)
        self.assertEqual(parting_depth(FORTY, "a" * 39 + "b"), 1)
        self.assertEqual(parting_depth("a" * 20 + "b" + "a" * 19, "a" * 19 + "b" + "a" * 20), 5)
        self.assertEqual(parting_depth(TURNS, TURNS[2:]), 5)
        self.assertEqual(parting_depth(TURNS, "ba" * 20), 2)

    def test_it_is_the_least_depth(self):
        for row, other in (("aabab", "abaab"), ("abcabcabc", "abcabc"), (TURNS, TURNS[4:]),
                           ("ab" * 5 + "ba" * 5, "ab" * 6 + "ba" * 4)):
            depth = parting_depth(row, other)
            self.assertEqual(depth, parting_depth(other, row))
            self.assertIs(are_alike(row, other, depth), False)
            self.assertIs(are_alike(row, other, depth - 1), True)

    def test_arguments_by_name(self):
        self.assertEqual(parting_depth(other_row="ab", row="aab"), 2)

    def test_errors(self):
        self.assert_checks_rows(parting_depth)


class ClassesTest(CheckingCase):

    def test_lists_and_their_sequence(self):
        self.assertEqual(classes(["b", "a", "bb", "", "aa", "b"], 1), [[0, 2, 5], [1, 4], [3]])
        self.assertEqual(classes(["b", "a", "bb", "", "aa", "b"], 2), [[0, 5], [1], [2], [3], [4]])
        self.assertEqual(classes(["ba", "z", "ab", "zz", "ab", "ba"], 1), [[0, 2, 4, 5], [1, 3]])
        self.assertEqual(classes(["ba", "z", "ab", "zz", "ab", "ba"], 2),
                         [[0, 5], [1], [2, 4], [3]])

    def test_against_are_alike(self):
        rows = short_rows("ab", 3)
        for start in range(len(rows)):
            few = [rows[(start * k + k) % len(rows)] for k in range(1, 7)]
            for depth in range(4):
                told = classes(few, depth)
                self.assertEqual(sorted(sum(told, [])), list(range(6)))
                self.assertEqual(told, sorted([sorted(indices) for indices in told]))
                for one in told:
                    for other in told:
                        for index in one:
                            for at in other:
                                self.assertIs(
                                    reference.alike(few[index], few[at], depth), one == other)

    def test_depth_0(self):
        self.assertEqual(classes(["a", "", "b", FORTY], 0), [[0, 1, 2, 3]])

    def test_one_row(self):
        for depth in range(7):
            self.assertEqual(classes([""], depth), [[0]])
            self.assertEqual(classes([FORTY], depth), [[0]])

    def test_equal_rows(self):
        self.assertEqual(classes([TURNS, "b", TURNS, "b", "", ""], 6), [[0, 2], [1, 3], [4, 5]])

    def test_rows_of_forty_letters(self):
        rows = [FORTY, TURNS, FORTY[1:], TURNS[2:], FORTY, "ba" * 20]
        self.assertEqual(classes(rows, 6), [[0, 4], [1], [2], [3], [5]])
        self.assertEqual(classes(rows, 4), [[0, 2, 4], [1, 3], [5]])
        self.assertEqual(classes(rows, 1), [[0, 2, 4], [1, 3, 5]])

    def test_signs_that_are_no_letters(self):
        rows = ["A", "a", "A1", "1A", "A", "\u00e9 !"]
        self.assertEqual(classes(rows, 1), [[0, 4], [1], [2, 3], [5]])
        self.assertEqual(classes(rows, 2), [[0, 4], [1], [2], [3], [5]])

    def test_the_list_of_rows_stays_as_it_was(self):
        rows = ["ab", "ba", "ab"]
        told = classes(rows, 2)
        self.assertEqual(rows, ["ab", "ba", "ab"])
        rows.append("zz")
        rows[0] = "c"
        self.assertEqual(told, [[0, 2], [1]])

    def test_told_lists_are_new(self):
        rows = ["ab", "ba", "ab"]
        told = classes(rows, 2)
        self.assertIs(type(told), list)
        for indices in told:
            self.assert_list_of_integers(indices)
            indices.append(9)
        told.append([])
        self.assertEqual(classes(rows, 2), [[0, 2], [1]])

    def test_arguments_by_name(self):
        self.assertEqual(classes(depth=1, rows=["a", "b", "aa"]), [[0, 2], [1]])

    def test_errors(self):
        self.assert_raises_exactly(InvalidNumber, -1, classes, ["a"], -1)
        self.assert_raises_exactly(InvalidNumber, -100, classes, ["A", "1"], -100)
        rows = ["a", "b"]
        self.assert_raises_exactly(InvalidNumber, -3, classes, depth=-3, rows=rows)
        self.assertEqual(rows, ["a", "b"])


if __name__ == "__main__":
    unittest.main()
