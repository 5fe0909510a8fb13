"""Questions decided for all rows of few letters, held against a walk through all short ones."""

import unittest

from pickdepths.asking import lets
from pickdepths.deciding import are_equal, follows, least_row, parting_row
from pickdepths.errors import InvalidScope
from pickdepths.questions import depth_of
from tests import reference
from tests.checking import CheckingCase
from tests.reference import (
    ANY, ONE_A, ONE_B, TWO, at_least, count_parts, either, none_of, nots, short_rows, some)
from tests.scoped import INSIDE, NO_QUESTIONS, ONE_C, ONE_D, OUTSIDE, drawn_questions

BACK = some(ANY, "a", ONE_A)
# How many letters the least rows of the greatest scope have at most, for each number of letters.
MOST = {1: 15, 2: 8, 3: 3, 4: 4}
OF_TWO = (are_equal, parting_row, follows)


def rows_let(question, many):
    """The short rows that let a question, ascending."""
    return [row for row in short_rows("abcd"[:many], MOST[many]) if reference.lets(row, question)]


def first(rows):
    return rows[0] if rows else None


def ordered(rows):
    return sorted(rows, key=lambda row: (len(row), row))


class ExamplesTest(unittest.TestCase):

    def test_examples_of_the_document(self):
        self.assertEqual(
            [least_row(TWO, 2), least_row(("both", ONE_A, ("not", ONE_A)), 2), are_equal(TWO, BACK, 2),
             parting_row(TWO, ONE_A, 2), parting_row(TWO, BACK, 1), follows(TWO, ONE_A, 2),
             follows(ONE_A, TWO, 2)],
            ["aa", None, True, "a", None, True, False])


class LeastRowTest(CheckingCase):

    def test_drawn_questions(self):
        for many in range(1, 5):
            for question in drawn_questions(many):
                self.assertEqual(
                    least_row(question, many), first(rows_let(question, many)), (question, many))

    def test_all_rows_and_none(self):
        for many in range(1, 5):
            self.assertEqual(least_row(ANY, many), "")
            self.assertIsNone(least_row(("not", ANY), many))
            self.assertIsNone(least_row(("both", ONE_A, ("not", ONE_A)), many))
            self.assertEqual(least_row(either(ONE_A, ("not", ONE_A)), many), "")
            self.assertEqual(least_row(none_of("abcd"[:many]), many), "")
        self.assertIsNone(least_row(some(none_of("a"), "a", ("not", ANY)), 1))
        self.assertIsNone(least_row(("both", at_least(3, "a"), ("not", at_least(2, "a"))), 1))

    def test_so_many_letters(self):
        for many in range(16):
            self.assertEqual(least_row(at_least(many, "a"), 1), "a" * many)
        self.assertEqual(least_row(at_least(3, "b"), 2), "bbb")

    def test_all_letters(self):
        for many in range(1, 5):
            letters = "abcd"[:many]
            question = reference.both_of_all([some(ANY, letter, ANY) for letter in letters])
            self.assertEqual(least_row(question, many), letters)
            self.assertEqual(least_row(some(ANY, letters[-1], ANY), many), letters[-1])

    def test_the_row_lets_the_question(self):
        for many in range(1, 5):
            for question in drawn_questions(many):
                row = least_row(question, many)
                if row is not None:
                    self.assertIs(type(row), str)
                    self.assertIs(lets(row, question), True)

    def test_the_letters_count(self):
        question = ("both", some(ONE_A, "b", ANY), some(ANY, "b", ONE_A))
        self.assertEqual(least_row(question, 2), "aba")
        self.assertEqual(least_row(("not", ONE_A), 1), "")
        self.assertEqual(least_row(("both", ("not", none_of("a")), ANY), 1), "a")

    def test_two_hundred_parts(self):
        self.assertEqual(least_row(nots(196, ONE_A), 1), "a")
        question = ANY
        while count_parts(question) < 185:
            question = ("both", question, some(ONE_B, "a", ("not", ONE_A)))
        self.assertEqual(least_row(question, 2), "ba")

    def test_arguments_by_name(self):
        self.assertEqual(least_row(many=2, question=TWO), "aa")
        self.assertEqual(least_row(TWO, many=1), "aa")

    def test_wrong_questions(self):
        for wrong in NO_QUESTIONS:
            for many in (1, 2, 5, -1):
                self.assert_no_question(wrong, least_row, wrong, many)
            self.assert_no_question(wrong, least_row, many=0, question=wrong)

    def test_no_scopes(self):
        for question, many, depth in OUTSIDE:
            self.assert_raises_exactly(InvalidScope, (many, depth), least_row, question, many)
            self.assert_raises_exactly(
                InvalidScope, (many, depth), least_row, many=many, question=question)

    def test_right_ones_raise_nothing(self):
        for question, many in INSIDE:
            self.assertIsNotNone(least_row(question, many))


class TwoQuestionsTest(CheckingCase):

    def assert_as_walked(self, question, other, many, let, other_let):
        """What the three functions tell, by the short rows that let the questions."""
        just_one = ordered(let ^ other_let)
        self.assertEqual(parting_row(question, other, many), first(just_one), (question, other))
        self.assertIs(are_equal(question, other, many), just_one == [], (question, other))
        self.assertIs(follows(question, other, many), let <= other_let, (question, other))

    def test_drawn_questions(self):
        for many in range(1, 5):
            told = [(question, set(rows_let(question, many))) for question in drawn_questions(many)]
            for at, (question, let) in enumerate(told):
                for other, other_let in told[at % 5::5]:
                    self.assert_as_walked(question, other, many, let, other_let)

    def test_questions_with_the_same_rows(self):
        for many in range(1, 5):
            for question in drawn_questions(many)[::2]:
                for other in (question, nots(2, question), ("both", question, question),
                              ("both", ANY, question), either(question, question),
                              ("both", question, ("not", ("both", ("not", question), question)))):
                    for one, two in ((question, other), (other, question)):
                        self.assertIs(are_equal(one, two, many), True)
                        self.assertIsNone(parting_row(one, two, many))
                        self.assertIs(follows(one, two, many), True)

    def test_a_question_and_its_contrary(self):
        for many in range(1, 5):
            for question in drawn_questions(many)[::2]:
                against = ("not", question)
                self.assertIs(are_equal(question, against, many), False)
                self.assertEqual(parting_row(question, against, many), "")
                self.assertIs(follows(question, against, many), least_row(question, many) is None)
                self.assertIs(follows(against, question, many), least_row(against, many) is None)

    def test_the_same_otherwise_put(self):
        # Two of a letter can be asked for from the last one or from the first one.
        self.assertIs(are_equal(TWO, BACK, 2), True)
        self.assertIs(are_equal(some(ONE_A, "b", ANY), some(ANY, "a", ONE_B), 2), True)
        self.assertIs(are_equal(some(ONE_A, "b", ANY), some(ONE_B, "a", ANY), 2), False)
        three = (some(TWO, "a", ANY), some(ANY, "a", BACK), some(ONE_A, "a", ONE_A), at_least(3, "a"))
        for one in three:
            for two in three:
                self.assertIs(are_equal(one, two, 1), True)
                self.assertIs(follows(one, TWO, 1), True)
                self.assertIs(follows(TWO, one, 1), False)
                self.assertEqual(parting_row(one, TWO, 1), "aa")

    def test_other_letters_make_a_difference(self):
        # All rows of a alone that are not empty have an a; of more letters, others have none.
        self.assertIs(are_equal(ONE_A, ("not", none_of("a")), 1), True)
        for many in (2, 3, 4):
            letters = "abcd"[:many]
            self.assertIs(are_equal(ONE_A, ("not", none_of(letters)), many), False)
            self.assertEqual(parting_row(ONE_A, ("not", none_of(letters)), many), "b")
            self.assertIs(follows(ONE_A, ("not", none_of(letters)), many), True)
            self.assertIs(follows(("not", none_of(letters)), ONE_A, many), False)
        self.assertEqual(parting_row(none_of("abc"), none_of("ab"), 3), "c")
        self.assertEqual(parting_row(none_of("abcd"), none_of("abc"), 4), "d")

    def test_the_least_row_of_those_that_let_just_one(self):
        self.assertEqual(parting_row(ONE_A, ONE_B, 2), "a")
        self.assertEqual(parting_row(ONE_B, ("not", none_of("ab")), 2), "a")
        self.assertEqual(parting_row(ONE_A, ("both", ONE_A, ONE_B), 2), "a")
        self.assertEqual(parting_row(either(ONE_A, ONE_B), ("both", ONE_A, ONE_B), 2), "a")
        self.assertEqual(parting_row(some(ONE_A, "b", ANY), ("both", ONE_A, ONE_B), 2), "ba")
        self.assertEqual(parting_row(at_least(14, "a"), at_least(15, "a"), 1), "a" * 14)
        self.assertEqual(parting_row(ANY, ("not", ANY), 4), "")

    def test_what_follows_is_no_matter_of_both_sides(self):
        self.assertIs(follows(("not", ANY), ONE_A, 1), True)
        self.assertIs(follows(ONE_A, ("not", ANY), 1), False)
        self.assertIs(follows(ONE_A, ANY, 3), True)
        self.assertIs(follows(ANY, ONE_A, 3), False)
        self.assertIs(follows(ONE_A, ONE_B, 2), False)
        self.assertIs(follows(("both", ONE_A, ONE_B), ONE_B, 2), True)
        self.assertIs(follows(ONE_B, ("both", ONE_A, ONE_B), 2), False)

    def test_questions_of_unlike_depths(self):
        for many, deep in ((1, at_least(9, "a")), (2, TWO), (2, some(ONE_A, "b", ANY)), (3, ONE_C)):
            let = set(rows_let(deep, many))
            for other in (ANY, ("not", ANY), ONE_A, ("not", ONE_A)):
                other_let = set(rows_let(other, many))
                self.assert_as_walked(deep, other, many, let, other_let)
                self.assert_as_walked(other, deep, many, other_let, let)

    def test_arguments_by_name(self):
        self.assertIs(are_equal(many=2, other_question=BACK, question=TWO), True)
        self.assertEqual(parting_row(many=2, other_question=ONE_A, question=TWO), "a")
        self.assertIs(follows(many=2, other_question=ONE_A, question=TWO), True)
        self.assertIs(follows(ONE_A, many=2, other_question=TWO), False)

    def test_wrong_questions(self):
        for function in OF_TWO:
            for wrong in NO_QUESTIONS:
                for many in (1, 2, 5, -1):
                    self.assert_no_question(wrong, function, wrong, ANY, many)
                    self.assert_no_question(wrong, function, ANY, wrong, many)
                    self.assert_no_question(wrong, function, wrong, [wrong], many)
                    self.assert_no_question(wrong, function, at_least(40, "z"), wrong, many)
                self.assert_no_question(wrong, function, many=0, other_question=wrong, question=ONE_A)

    def test_no_scopes(self):
        for function in OF_TWO:
            for question, many, depth in OUTSIDE:
                for other in (question, ANY, nots(2)):
                    self.assert_raises_exactly(
                        InvalidScope, (many, depth), function, question, other, many)
                    self.assert_raises_exactly(
                        InvalidScope, (many, depth), function, other, question, many)

    def test_the_greatest_depth_counts(self):
        for function in OF_TWO:
            for one, two, many, depth in (
                    (ONE_A, TWO, 3, 2), (at_least(4, "a"), ONE_B, 2, 3), (at_least(4, "a"), ONE_B, 1, 3),
                    (TWO, ONE_C, 2, 2), (ONE_A, at_least(16, "a"), 1, 5), (ANY, ONE_B, 1, 1),
                    (TWO, ONE_B, 1, 2), (TWO, at_least(8, "b"), 1, 4), (ONE_D, ONE_C, 3, 1),
                    (at_least(40, "a"), TWO, -1, 6)):
                self.assertEqual(depth, max(depth_of(one), depth_of(two)))
                self.assert_raises_exactly(InvalidScope, (many, depth), function, one, two, many)
                self.assert_raises_exactly(InvalidScope, (many, depth), function, two, one, many)

    def test_right_ones_raise_nothing(self):
        for function in OF_TWO:
            for question, many in INSIDE:
                for other in (ANY, ONE_A):
                    function(question, other, many)
                    function(other, question, many)


if __name__ == "__main__":
    unittest.main()
