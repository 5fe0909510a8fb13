"""How many rows let a question, by length, and these rows by index, held against all rows."""

import unittest
from functools import lru_cache
from random import Random

from pickdepths.asking import lets
from pickdepths.counting import count_rows, has_length, lengths_to, nth_row, row_index
from pickdepths.errors import InvalidNumber, InvalidRow, InvalidScope, NotLet
from pickdepths.questions import depth_of
from pickdepths.scopes import least_alike, least_rows
from tests import reference
from tests.checking import BAD_ROWS, CheckingCase
from tests.reference import (
    ANY, ONE_A, ONE_B, TWO, at_least, both_of_all, count_parts, either, none_of, nots, some)
from tests.scoped import (
    DEPTHS, INSIDE, NO_QUESTIONS, ONE_C, ONE_D, OUTSIDE, drawn_questions, every_other,
    great_questions)

# The greatest length of which all rows are walked through, for each number of letters.
MOST = {1: 18, 2: 8, 3: 5, 4: 4}
NO_ROWS = ("not", ANY)
NO_LENGTHS = (-1, -2, -100, -10 ** 30)
NO_INDICES = (-1, -2, -10 ** 70)
GREAT = 10 ** 30


def let_by_length(question, many):
    """For each length that is walked through, the list of the rows that let a question."""
    return [[row for row in rows_of_length("abcd"[:many], length) if reference.lets(row, question)]
            for length in range(MOST[many] + 1)]


def rows_of_length(letters, length):
    """All rows of a length, by the alphabet."""
    rows = [""]
    for _ in range(length):
        rows = [row + letter for row in rows for letter in letters]
    return rows


def questions_of(many):
    letters = "abcd"[:many]
    return drawn_questions(many)[::2] + great_questions(many) + [
        ANY, NO_ROWS, ONE_A, none_of(letters), both_of_all([some(ANY, one, ANY) for one in letters])]


@lru_cache(maxsize=None)
def steps_of(many, depth):
    """For the least row of each kind, the least rows of the kinds with a letter more."""
    return {row: [least_alike(row + letter, many, depth) for letter in "abcd"[:many]]
            for row in least_rows(many, depth)}


def counts_by_kinds(question, many, most):
    """How many rows of each length let a question, as sums over the kinds of the scope."""
    steps = steps_of(many, depth_of(question))
    let = [row for row in steps if reference.lets(row, question)]
    counts, told = {"": 1}, []
    for _ in range(most + 1):
        told.append(sum(counts.get(row, 0) for row in let))
        longer = {}
        for row, count in counts.items():
            for step in steps[row]:
                longer[step] = longer.get(step, 0) + count
        counts = longer
    return told


class ExamplesTest(unittest.TestCase):

    def test_examples_of_the_document(self):
        self.assertEqual(
            [count_rows(TWO, 2, 3), nth_row(TWO, 2, 3, 1), row_index(TWO, 2, "baa"),
             has_length(TWO, 1, 10 ** 30), has_length(("not", TWO), 1, 10 ** 30),
             lengths_to(("not", TWO), 1, 5), count_rows(ANY, 2, 5)],
            [4, "aab", 3, True, False, [0, 1], 32])


class CountingCase(CheckingCase):

    def assert_checks_question(self, function, *rest):
        """A function of a question and many has the checks of these ahead of all else."""
        for wrong in NO_QUESTIONS:
            for many in (1, 2, 5, -1):
                self.assert_no_question(wrong, function, wrong, many, *rest)
        for question, many, depth in OUTSIDE:
            self.assert_raises_exactly(InvalidScope, (many, depth), function, question, many, *rest)

    def assert_checks_length(self, function, *rest):
        for question, many in INSIDE + ((NO_ROWS, 1), (NO_ROWS, 4)):
            for length in NO_LENGTHS:
                self.assert_raises_exactly(InvalidNumber, length, function, question, many, length, *rest)


class CountRowsTest(CountingCase):

    def test_all_rows_one_by_one(self):
        for many in range(1, 5):
            for question in questions_of(many):
                for length, rows in enumerate(let_by_length(question, many)):
                    told = count_rows(question, many, length)
                    self.assertIs(type(told), int)
                    self.assertEqual(told, len(rows), (question, many, length))

    def test_all_rows_and_none(self):
        for many in range(1, 5):
            for length in (0, 1, 2, 7, 40, 99, 100):
                for question in (ANY, nots(2), either(ONE_A, ("not", ONE_A))):
                    self.assertEqual(count_rows(question, many, length), many ** length)
                for question in (NO_ROWS, ("both", ONE_A, ("not", ONE_A))):
                    self.assertEqual(count_rows(question, many, length), 0)

    def test_a_question_and_its_contrary(self):
        for many in range(1, 5):
            for question in questions_of(many):
                for length in (0, 1, 5, 33, 100):
                    self.assertEqual(
                        count_rows(question, many, length) + count_rows(("not", question), many, length),
                        many ** length)

    def test_both_and_either(self):
        for many in range(1, 5):
            questions = drawn_questions(many)
            for one, two in zip(questions[::6], questions[3::6]):
                for length in (0, 3, 50):
                    self.assertEqual(
                        count_rows(("both", one, two), many, length)
                        + count_rows(either(one, two), many, length),
                        count_rows(one, many, length) + count_rows(two, many, length))

    def test_length_0(self):
        for many in range(1, 5):
            for question in questions_of(many):
                self.assertEqual(count_rows(question, many, 0), int(reference.lets("", question)))

    def test_great_lengths_by_sums_over_kinds(self):
        for many in range(1, 5):
            for question in drawn_questions(many)[::12] + great_questions(many):
                for length, told in enumerate(counts_by_kinds(question, many, 100)):
                    if length % 9 == 1 or length > 98:
                        self.assertEqual(count_rows(question, many, length), told)

    def test_known_numbers(self):
        for length in (0, 1, 2, 10, 64, 100):
            # No a; just one a, or more; letters in the sequence of the alphabet.
            self.assertEqual(count_rows(("not", ONE_A), 3, length), 2 ** length)
            self.assertEqual(count_rows(("not", TWO), 2, length), 1 + length)
            self.assertEqual(count_rows(TWO, 2, length), 2 ** length - 1 - length)
            self.assertEqual(count_rows(("not", some(ONE_B, "a", ANY)), 2, length), length + 1)
            self.assertEqual(count_rows(at_least(15, "a"), 1, length), int(length >= 15))
        self.assertEqual(count_rows(both_of_all([ONE_A, ONE_B, ONE_C, ONE_D]), 4, 4), 24)

    def test_questions_of_nearly_two_hundred_parts(self):
        for many in range(1, 5):
            for question in great_questions(many):
                self.assertIn(count_parts(question), range(100, 201))
                self.assertEqual(depth_of(question), DEPTHS[many])
        self.assertEqual(count_rows(nots(199), 4, 100), 0)
        self.assertEqual(count_rows(nots(198), 4, 100), 4 ** 100)

    def test_arguments_by_name(self):
        self.assertEqual(count_rows(length=3, many=2, question=TWO), 4)
        self.assertEqual(count_rows(TWO, length=3, many=2), 4)

    def test_errors(self):
        for length in (0, 3, 100) + NO_LENGTHS:
            self.assert_checks_question(count_rows, length)
        self.assert_checks_length(count_rows)
        self.assert_no_question(None, count_rows, many=0, question=None, length=-1)
        self.assert_raises_exactly(InvalidNumber, -1, count_rows, length=-1, many=1, question=ANY)

    def test_right_ones_raise_nothing(self):
        for question, many in INSIDE:
            for length in (0, 1, 100, 101, 120):
                self.assertGreaterEqual(count_rows(question, many, length), 0)


class RowsByIndexTest(CountingCase):

    def test_all_rows_one_by_one(self):
        for many in range(1, 5):
            for question in questions_of(many)[::6]:
                for length, rows in enumerate(let_by_length(question, many)):
                    self.assertEqual(
                        [nth_row(question, many, length, index) for index in range(len(rows))], rows)

    def test_indices_of_all_rows(self):
        for many in range(1, 5):
            for question in questions_of(many)[1::4]:
                for rows in let_by_length(question, many):
                    self.assertEqual(
                        [row_index(question, many, row) for row in rows], list(range(len(rows))))

    def test_the_first_index_that_is_too_great(self):
        for many in range(1, 5):
            for question in questions_of(many)[::3] + [NO_ROWS]:
                for length in (0, 1, 4, 100):
                    count = count_rows(question, many, length)
                    for index in (count, count + 1, 10 ** 70):
                        self.assert_raises_exactly(
                            InvalidNumber, index, nth_row, question, many, length, index)
                    if count > 0:
                        self.assertEqual(len(nth_row(question, many, length, count - 1)), length)

    def test_great_lengths(self):
        drawn = Random(91)
        for many in range(1, 5):
            for question in drawn_questions(many)[::12] + great_questions(many):
                for length in (15, 40, 99, 100):
                    count = count_rows(question, many, length)
                    indices = sorted({drawn.randrange(count) for _ in range(3)} | {0, count - 1}) if count else []
                    rows = [nth_row(question, many, length, index) for index in indices]
                    self.assertEqual(rows, sorted(rows))
                    for index, row in zip(indices, rows):
                        self.assertEqual(len(row), length)
                        self.assertTrue(set(row) <= set("abcd"[:many]))
                        self.assertIs(lets(row, question), True)
                        self.assertEqual(row_index(question, many, row), index)

    def test_next_to_one_another(self):
        # Between a row and the one with the next index, no row lets the question.
        rows = rows_of_length("ab", 9)
        for question in great_questions(2):
            for index in range(0, count_rows(question, 2, 9) - 1, 13):
                first, second = nth_row(question, 2, 9, index), nth_row(question, 2, 9, index + 1)
                for row in rows[rows.index(first) + 1:rows.index(second)]:
                    self.assertIs(lets(row, question), False)

    def test_known_rows(self):
        self.assertEqual(nth_row(ANY, 4, 100, 4 ** 100 - 1), "d" * 100)
        self.assertEqual(nth_row(ANY, 4, 100, 0), "a" * 100)
        self.assertEqual(nth_row(ANY, 2, 100, 1 << 99), "b" + "a" * 99)
        self.assertEqual(nth_row(ANY, 3, 4, 5), "aabc")
        self.assertEqual(nth_row(ANY, 1, 0, 0), "")
        self.assertEqual(nth_row(("not", TWO), 2, 100, 0), "a" + "b" * 99)
        self.assertEqual(nth_row(("not", TWO), 2, 100, 99), "b" * 99 + "a")
        self.assertEqual(nth_row(("not", TWO), 2, 100, 100), "b" * 100)
        self.assertEqual(nth_row(every_other(12), 1, 11, 0), "a" * 11)
        self.assertEqual(row_index(ANY, 4, "d" * 40), 4 ** 40 - 1)
        self.assertEqual(row_index(ANY, 4, "a" * 40), 0)
        self.assertEqual(row_index(ANY, 3, ""), 0)
        self.assertEqual(row_index(("not", TWO), 2, "b" * 40), 40)
        self.assertEqual(row_index(both_of_all([ONE_A, ONE_B, ONE_C, ONE_D]), 4, "dcba"), 23)

    def test_kinds_of_values(self):
        self.assertIs(type(nth_row(TWO, 2, 3, 1)), str)
        self.assertIs(type(row_index(TWO, 2, "baa")), int)
        self.assertIs(type(row_index(ANY, 2, "")), int)

    def test_arguments_by_name(self):
        self.assertEqual(nth_row(index=1, length=3, many=2, question=TWO), "aab")
        self.assertEqual(nth_row(TWO, 2, index=1, length=3), "aab")
        self.assertEqual(row_index(row="baa", many=2, question=TWO), 3)
        self.assertEqual(row_index(TWO, row="baa", many=2), 3)

    def test_errors_of_nth_row(self):
        for length, index in ((0, 0), (3, 1), (-1, 0), (5, -1), (-1, -1), (3, 10 ** 70)):
            self.assert_checks_question(nth_row, length, index)
        for index in (0, 1) + NO_INDICES:
            self.assert_checks_length(nth_row, index)
        for question, many in INSIDE + ((NO_ROWS, 2),):
            for length in (0, 1, 100):
                for index in NO_INDICES:
                    self.assert_raises_exactly(
                        InvalidNumber, index, nth_row, question, many, length, index)
        self.assert_raises_exactly(InvalidNumber, 0, nth_row, ONE_A, 2, 0, 0)
        self.assert_raises_exactly(InvalidNumber, 1, nth_row, ANY, 2, 0, 1)
        self.assert_raises_exactly(InvalidNumber, 4 ** 100, nth_row, ANY, 4, 100, 4 ** 100)
        self.assert_raises_exactly(InvalidNumber, -3, nth_row, index=-2, length=-3, many=1, question=ANY)

    def test_errors_of_row_index(self):
        for row in ("", "a", "b", "zz", "A", "ab ", "b" * 40):
            self.assert_checks_question(row_index, row)
        for bad, index in BAD_ROWS:
            for question in (ANY, NO_ROWS, ONE_A):
                # A letter that is none of the first four is a wrong sign, too.
                wrong = [at for at, sign in enumerate(bad) if sign not in "abcd"][0]
                self.assertLessEqual(wrong, index)
                self.assert_raises_exactly(InvalidRow, wrong, row_index, question, 4, bad)
        for row, many, index in (("b", 1, 0), ("ab", 1, 1), ("abc", 2, 2), ("bad", 3, 2), ("abcde", 4, 4),
                                 ("a" * 39 + "b", 1, 39), ("ec", 2, 0), ("ace", 2, 1)):
            self.assert_raises_exactly(InvalidRow, index, row_index, ANY, many, row)
            self.assert_raises_exactly(InvalidRow, index, row_index, NO_ROWS, many, row)
            self.assert_raises_exactly(InvalidRow, index, row_index, row=row, question=ONE_A, many=many)

    def test_rows_that_do_not_let_the_question(self):
        for many in range(1, 5):
            for question in questions_of(many)[::4] + [NO_ROWS]:
                for length in range(MOST[many] + 1):
                    for row in rows_of_length("abcd"[:many], length)[::7]:
                        if not reference.lets(row, question):
                            self.assert_raises_exactly(NotLet, row, row_index, question, many, row)
        self.assert_raises_exactly(NotLet, "", row_index, ONE_A, 2, "")
        self.assert_raises_exactly(NotLet, "b" * 40, row_index, row="b" * 40, question=TWO, many=2)


class LengthsTest(CountingCase):

    def assert_lengths(self, question, many, lengths, rest):
        """The question is let at these lengths, and behind the last one at all others or at none."""
        last = max(lengths, default=0)
        for length in list(range(last + 30)) + [99, 100, GREAT - 1, GREAT]:
            told = length in lengths if length <= last else rest
            self.assertIs(has_length(question, many, length), told, (question, many, length))
        for most in (0, 1, last, last + 1, last + 2, 99, 100):
            told = [length for length in range(most + 1) if length in lengths or (rest and length > last)]
            self.assertEqual(lengths_to(question, many, most), told)

    def test_against_the_counts(self):
        for many in range(1, 5):
            for question in questions_of(many)[::3]:
                counts = counts_by_kinds(question, many, 100)
                told = [length for length, count in enumerate(counts) if count > 0]
                self.assertEqual(lengths_to(question, many, 100), told)
                for most in (0, 1, 2, 15, 16, 17, 40):
                    self.assertEqual(
                        lengths_to(question, many, most), [length for length in told if length <= most])
                for length in list(range(20)) + [40, 99, 100]:
                    self.assertIs(has_length(question, many, length), length in told)
                # From the length 16 on no scope here tells lengths apart.
                for length in (101, 10 ** 6, GREAT - 1, GREAT):
                    self.assertIs(has_length(question, many, length), 100 in told)

    def test_every_scope(self):
        for many in range(1, 5):
            for depth in range(DEPTHS[many] + 1):
                question = at_least(2 ** depth - 1, "a")
                self.assertEqual(depth_of(question), depth)
                self.assert_lengths(question, many, [2 ** depth - 1], True)

    def test_a_few_lengths_alone(self):
        self.assert_lengths(NO_ROWS, 3, [], False)
        self.assert_lengths(none_of("abcd"), 4, [0], False)
        self.assert_lengths(("not", at_least(7, "a")), 1, list(range(7)), False)
        exactly = ("both", at_least(9, "a"), ("not", at_least(10, "a")))
        self.assert_lengths(exactly, 1, [9], False)
        self.assert_lengths(either(exactly, none_of("a")), 1, [0, 9], False)
        # At most one of each letter.
        self.assert_lengths(("both", ("not", TWO), ("not", some(ONE_B, "b", ANY))), 2, [0, 1, 2], False)

    def test_all_lengths_from_one_on(self):
        for many in range(1, 16):
            self.assert_lengths(at_least(many, "a"), 1, [many], True)
        self.assert_lengths(ANY, 4, [0], True)
        self.assert_lengths(both_of_all([ONE_A, ONE_B, ONE_C, ONE_D]), 4, [4], True)
        self.assert_lengths(both_of_all([ONE_A, ONE_C]), 3, [2], True)
        self.assert_lengths(TWO, 2, [2], True)
        self.assert_lengths(either(none_of("ab"), TWO), 2, [0, 2], True)
        # An a between two b, and a b between two a.
        self.assert_lengths(("both", some(ONE_B, "a", ONE_B), some(ONE_A, "b", ONE_A)), 2, [4], True)

    def test_every_other_length(self):
        for most in (2, 4, 8, 12, 14):
            odd = list(range(1, most, 2))
            self.assert_lengths(every_other(most), 1, odd, False)
            even = list(range(0, most, 2))
            self.assert_lengths(("not", every_other(most)), 1, even + [most], True)
        # The greatest length that can be told apart from all greater ones is 14.
        self.assertEqual(lengths_to(every_other(14), 1, 100), [1, 3, 5, 7, 9, 11, 13])
        self.assertEqual(lengths_to(("both", ("not", every_other(14)), ("not", at_least(15, "a"))), 1, 99),
                         [0, 2, 4, 6, 8, 10, 12, 14])

    def test_kinds_of_values(self):
        told = lengths_to(TWO, 2, 4)
        self.assert_list_of_integers(told)
        told.append(9)
        self.assertEqual(lengths_to(TWO, 2, 4), [2, 3, 4])
        empty = lengths_to(NO_ROWS, 1, 4)
        empty.append(1)
        self.assertEqual(lengths_to(NO_ROWS, 1, 4), [])

    def test_arguments_by_name(self):
        self.assertIs(has_length(length=GREAT, many=1, question=TWO), True)
        self.assertIs(has_length(TWO, length=1, many=2), False)
        self.assertEqual(lengths_to(most=5, many=1, question=("not", TWO)), [0, 1])
        self.assertEqual(lengths_to(TWO, most=2, many=1), [2])

    def test_errors(self):
        for function in (has_length, lengths_to):
            for length in (0, 3, 100) + NO_LENGTHS:
                self.assert_checks_question(function, length)
            self.assert_checks_length(function)
        for length in (GREAT, -GREAT):
            self.assert_checks_question(has_length, length)
        self.assert_raises_exactly(InvalidNumber, -4, has_length, length=-4, many=1, question=ANY)
        self.assert_raises_exactly(InvalidNumber, -4, lengths_to, most=-4, many=1, question=ANY)
        self.assert_raises_exactly(InvalidScope, (5, 1), lengths_to, most=-4, many=5, question=ONE_A)
        self.assert_no_question((), has_length, length=-4, many=5, question=())

    def test_right_ones_raise_nothing(self):
        for question, many in INSIDE:
            self.assertIs(type(has_length(question, many, GREAT)), bool)
            self.assertIs(type(lengths_to(question, many, 120)), list)


if __name__ == "__main__":
    unittest.main()
