"""The picks of the game: those that win, and the answers with which one can last."""

import unittest
from random import Random

from pickdepths.alike import answers, are_alike, classes, parting_depth, winning_picks
from pickdepths.errors import InvalidNumber, InvalidPlace, InvalidRow
from tests import reference
from tests.checking import CheckingCase
from tests.reference import short_rows

FORTY = "a" * 40
TURNS = "ab" * 20


class AnswersTest(CheckingCase):

    def test_short_rows(self):
        rows = short_rows("ab", 4)
        for row in rows:
            for other in rows:
                for depth in range(1, 4):
                    for place in range(len(row)):
                        self.assertEqual(
                            answers(row, other, depth, place),
                            reference.good_places(row, place, other, depth),
                            (row, other, depth, place))

    def test_depth_1_asks_for_the_letter_alone(self):
        self.assertEqual(answers("xay", "abaca", 1, 1), [0, 2, 4])
        self.assertEqual(answers("xay", "abaca", 1, 0), [])

    def test_first_and_last_places(self):
        self.assertEqual(answers("aaaa", "aaaaa", 2, 0), [0])
        self.assertEqual(answers("aaaa", "aaaaa", 2, 3), [4])
        self.assertEqual(answers("aba", "abba", 2, 0), [0])
        self.assertEqual(answers("aba", "abba", 2, 2), [3])
        self.assertEqual(answers("a", "a", 6, 0), [0])

    def test_ahead_and_behind_both_count(self):
        self.assertEqual(answers("ba", "bab", 2, 1), [])
        self.assertEqual(answers("ab", "bab", 2, 0), [])
        self.assertEqual(answers("bab", "bbabb", 2, 1), [2])

    def test_the_other_row_is_empty(self):
        for depth in (1, 2, 6):
            self.assertEqual(answers("ab", "", depth, 1), [])

    def test_the_rows_are_not_exchanged(self):
        self.assertEqual(answers("aaa", "aaaa", 2, 1), [1, 2])
        self.assertEqual(answers("aaaa", "aaa", 2, 1), [1])
        self.assertEqual(answers("aaaa", "aaa", 2, 2), [1])

    def test_rows_of_forty_letters(self):
        self.assertEqual(answers(FORTY, FORTY, 6, 0), [0])
        self.assertEqual(answers(FORTY, FORTY, 6, 39), [39])
        self.assertEqual(answers(FORTY, FORTY, 5, 20), list(range(15, 25)))
        self.assertEqual(answers(TURNS, TURNS, 6, 39), [39])
        self.assertEqual(answers(TURNS, TURNS, 6, 1), [1])

    def test_they_are_what_lets_the_answering_player_last(self):
        rows = short_rows("ab", 3)
        for row in rows:
            for other in rows:
                for place in range(len(row)):
                    good = [
                        at for at in range(len(other))
                        if row[place] == other[at]
                        and reference.can_last(row, other, 2, ((place, at),))]
                    self.assertEqual(answers(row, other, 3, place), good)

    def test_kinds_of_values(self):
        told = answers("aaa", "aaaa", 2, 1)
        self.assert_list_of_integers(told)
        told.append(9)
        self.assertEqual(answers("aaa", "aaaa", 2, 1), [1, 2])

    def test_arguments_by_name(self):
        self.assertEqual(answers(place=1, depth=2, other_row="aaaa", row="aaa"), [1, 2])

    def test_errors_of_rows(self):
        self.assert_checks_rows(answers, 1, 0)
        self.assert_checks_rows(answers, -1, -1)
        self.assert_checks_rows(answers, 0, 99)

    def test_errors_of_depths(self):
        for place in (0, 1, -1, 2, 99):
            for depth in (-1, -7, -100, 0):
                self.assert_raises_exactly(
                    InvalidNumber, depth, answers, "ab", "ba", depth, place)
                self.assert_raises_exactly(InvalidNumber, depth, answers, "", "", depth, place)

    def test_errors_of_places(self):
        for depth in (1, 2, 6):
            for place in (-1, -2, -3, -100, 2, 3, 100):
                self.assert_raises_exactly(
                    InvalidPlace, place, answers, "ab", "abab", depth, place)
            self.assert_raises_exactly(InvalidPlace, 0, answers, "", "ab", depth, 0)
            self.assert_raises_exactly(InvalidPlace, 40, answers, FORTY, TURNS, depth, 40)
        # The places are those of the first row, also where the other one has fewer.
        self.assertEqual(answers("aaaa", "a", 1, 3), [0])

    def test_the_first_error_is_raised(self):
        self.assert_raises_exactly(InvalidRow, 1, answers, "aA", "B", -1, -1)
        self.assert_raises_exactly(InvalidRow, 0, answers, "aa", "B", -1, -1)
        self.assert_raises_exactly(InvalidNumber, -1, answers, "aa", "b", -1, -1)
        self.assert_raises_exactly(InvalidNumber, 0, answers, "aa", "b", 0, -1)
        self.assert_raises_exactly(InvalidPlace, -1, answers, "aa", "b", 1, -1)


class WinningPicksTest(CheckingCase):

    def test_short_rows(self):
        rows = short_rows("ab", 4)
        for row in rows:
            for other in rows:
                for depth in range(4):
                    told = winning_picks(row, other, depth)
                    self.assertEqual(
                        told, reference.winning(row, other, depth), (row, other, depth))
                    self.assertIs(told == [], are_alike(row, other, depth))

    def test_depth_0(self):
        for row, other in (("", ""), ("a", ""), ("a", "b"), (FORTY, TURNS)):
            self.assertEqual(winning_picks(row, other, 0), [])

    def test_depth_1(self):
        self.assertEqual(winning_picks("xay", "zaz", 1), [(0, 0), (0, 2), (1, 0), (1, 2)])
        self.assertEqual(winning_picks("", "ab", 1), [(1, 0), (1, 1)])
        self.assertEqual(winning_picks("ab", "", 1), [(0, 0), (0, 1)])

    def test_first_and_last_places(self):
        self.assertEqual(winning_picks("ab", "ba", 2), [(0, 0), (0, 1), (1, 0), (1, 1)])
        self.assertEqual(winning_picks("aba", "abba", 2), [(0, 1), (1, 1), (1, 2)])
        self.assertEqual(winning_picks("aab", "bab", 2),
                         [(side, place) for side in (0, 1) for place in (0, 1, 2)])

    def test_the_two_rows_either_way_about(self):
        rows = short_rows("ab", 3) + ["aabab", "abaab"]
        for row in rows:
            for other in rows:
                turned = sorted([(1 - side, place) for side, place in winning_picks(row, other, 2)])
                self.assertEqual(winning_picks(other, row, 2), turned)

    def test_rows_of_forty_letters(self):
        self.assertEqual(winning_picks(FORTY, FORTY, 6), [])
        self.assertEqual(winning_picks(TURNS, TURNS, 6), [])
        self.assertEqual(winning_picks(FORTY, FORTY[1:], 5), [])
        picks = winning_picks(FORTY, FORTY[1:], 6)
        self.assertEqual(picks, [
            (side, place) for side in (0, 1) for place in range(40 - side)
            if not answers(*[(FORTY, FORTY[1:]), (FORTY[1:], FORTY)][side], 6, place)])
        self.assertIn((0, 20), picks)
        self.assertEqual(winning_picks(FORTY, "", 6), [(0, place) for place in range(40)])

    def test_kinds_of_values(self):
        told = winning_picks("aab", "ab", 2)
        self.assertIs(type(told), list)
        for pick in told:
            self.assertIs(type(pick), tuple)
            self.assert_list_of_integers(list(pick))
        told.append((0, 9))
        self.assertEqual(winning_picks("aab", "ab", 2), [(0, 0), (0, 1), (1, 0)])
        empty = winning_picks("a", "b", 0)
        empty.append(1)
        self.assertEqual(winning_picks("a", "b", 0), [])

    def test_arguments_by_name(self):
        told = winning_picks(depth=2, other_row="ab", row="aab")
        self.assertEqual(told, [(0, 0), (0, 1), (1, 0)])

    def test_errors(self):
        for depth in (0, 1, 3, -1):
            self.assert_checks_rows(winning_picks, depth)
        for depth in (-1, -100):
            self.assert_raises_exactly(InvalidNumber, depth, winning_picks, "ab", "ba", depth)
            self.assert_raises_exactly(InvalidNumber, depth, winning_picks, "", "", depth)


def long_rows():
    """Rows of about forty letters: drawn ones, repeated ones, and each with two letters exchanged."""
    drawn = Random(71)
    rows = [FORTY, TURNS, "abc" * 13, "abcd" * 10, "aab" * 13, "b" + FORTY[1:]]
    for letters in ("ab", "abc", "abcdefghijklmnopqrstuvwxyz"):
        rows.append("".join(drawn.choice(letters) for _ in range(40)))
    pairs = []
    for row in rows:
        at = drawn.randint(1, len(row) - 2)
        exchanged = row[:at] + row[at + 1] + row[at] + row[at + 2:]
        pairs += [(row, row), (row, exchanged), (row, row[1:]), (row, row[:20] + row[21:])]
    return pairs


class LongRowsTest(CheckingCase):

    def test_by_the_words_of_point_6(self):
        for row, other in long_rows():
            for depth in range(4):
                told = reference.kind(row, depth) == reference.kind(other, depth)
                self.assertIs(are_alike(row, other, depth), told)
                self.assertEqual(classes([row, other], depth), [[0, 1]] if told else [[0], [1]])

    def test_answers_by_the_words_of_point_6(self):
        for row, other in long_rows():
            for depth in (1, 2, 3):
                around = [(other[at], reference.kind(other[:at], depth - 1),
                           reference.kind(other[at + 1:], depth - 1)) for at in range(len(other))]
                for place in range(0, len(row), 5):
                    wanted = (row[place], reference.kind(row[:place], depth - 1),
                              reference.kind(row[place + 1:], depth - 1))
                    good = [at for at, told in enumerate(around) if told == wanted]
                    self.assertEqual(answers(row, other, depth, place), good)

    def test_all_functions_tell_the_same(self):
        for row, other in long_rows():
            least = parting_depth(row, other)
            for depth in (1, 3, 4, 5, 6):
                alike = least is None or least > depth
                self.assertIs(are_alike(row, other, depth), alike)
                self.assertEqual(classes([row, other, row], depth), [[0, 1, 2]] if alike else [[0, 2], [1]])
                picks = winning_picks(row, other, depth)
                self.assertIs(picks == [], alike)
                for place in range(0, len(row), 7):
                    good = answers(row, other, depth, place)
                    self.assertIs(good == [], (0, place) in picks)
                    for at in range(len(other)):
                        told = (row[place] == other[at] and are_alike(row[:place], other[:at], depth - 1)
                                and are_alike(row[place + 1:], other[at + 1:], depth - 1))
                        self.assertIs(told, at in good)


if __name__ == "__main__":
    unittest.main()
