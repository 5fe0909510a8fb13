"""Point 7 for questions: a question of the least depth that parts two rows."""

import unittest
from random import Random

from pickdepths.alike import are_alike, parting_depth
from pickdepths.asking import lets, parting_question, places_of
from pickdepths.questions import depth_of, is_question, letters_in, turned_question
from tests import reference
from tests.checking import CheckingCase
from tests.reference import count_parts, drawn_row, short_rows


def changed(drawn, row, letters):
    """A row of at most 6 letters that is a little different from a row, or the same."""
    signs = list(row)
    for _ in range(drawn.randint(1, 2)):
        at = drawn.randint(0, len(signs))
        if drawn.random() < 0.4 and len(signs) < 6:
            signs.insert(at, drawn.choice(letters))
        elif drawn.random() < 0.5 and at < len(signs):
            del signs[at]
        elif at + 1 < len(signs):
            signs[at:at + 2] = signs[at:at + 2][::-1]
    return "".join(signs)


def drawn_pairs():
    drawn = Random(11)
    pairs = []
    for letters in ("ab", "abc", "abcdef", "aaaaab", "xyz"):
        for _ in range(60):
            row = drawn_row(drawn, letters, 6)
            pairs.append((row, changed(drawn, row, letters)))
            pairs.append((row, drawn_row(drawn, letters, 6)))
    return pairs


class PartingQuestionTest(CheckingCase):

    def assert_parts(self, row, other):
        question = parting_question(row, other)
        if row == other:
            self.assertIsNone(question)
            return
        self.assertIs(is_question(question), True)
        self.assertEqual(depth_of(question), parting_depth(row, other), (row, other))
        self.assertIs(lets(row, question), True, (row, other))
        self.assertIs(lets(other, question), False, (row, other))

    def test_examples_of_the_document(self):
        parts = parting_question("ab", "ba")
        self.assertEqual(
            [depth_of(parts), lets("ab", parts), lets("ba", parts), parting_question("a", "a")],
            [2, True, False, None])

    def test_all_pairs_of_short_rows(self):
        rows = short_rows("ab", 4)
        for row in rows:
            for other in rows:
                self.assert_parts(row, other)

    def test_short_rows_by_the_words_of_point_5(self):
        rows = short_rows("ab", 3) + ["aaaa", "abab", "abba", "aabb"]
        for row in rows:
            for other in rows:
                if row != other:
                    question = parting_question(row, other)
                    self.assertIs(reference.lets(row, question), True)
                    self.assertIs(reference.lets(other, question), False)
                    self.assertEqual(reference.depth_by_words(question),
                                     reference.least_parting_depth(row, other))

    def test_drawn_pairs(self):
        unlike = 0
        for row, other in drawn_pairs():
            self.assert_parts(row, other)
            self.assert_parts(other, row)
            unlike += row != other
        self.assertGreater(unlike, 400)

    def test_rows_of_one_letter(self):
        for many in range(7):
            for others in range(7):
                self.assert_parts("q" * many, "q" * others)

    def test_the_empty_row(self):
        for row in ("a", "z", "abc", "aaaaaa", "abcdef"):
            self.assert_parts("", row)
            self.assert_parts(row, "")
        self.assertIsNone(parting_question("", ""))

    def test_equal_rows(self):
        for row in ("", "z", "abcdef", "aaaaaa", "ababab"):
            self.assertIsNone(parting_question(row, row))
            self.assertIsNone(parting_question(row, "".join(list(row))))

    def test_it_parts_only_rows_that_are_not_alike_to_its_depth(self):
        for row, other in drawn_pairs()[::9]:
            if row != other:
                question = parting_question(row, other)
                for third in short_rows("ab", 4):
                    if are_alike(row, third, depth_of(question)):
                        self.assertIs(lets(third, question), True)
                    if are_alike(other, third, depth_of(question)):
                        self.assertIs(lets(third, question), False)

    def test_what_it_returns_may_be_passed_on(self):
        for row, other in drawn_pairs():
            if row != other:
                question = parting_question(row, other)
                self.assertLessEqual(count_parts(question), 200)
                self.assertTrue(set(letters_in(question)) <= set(row + other))
                turned = turned_question(question)
                self.assertIs(lets(row[::-1], turned), True)
                self.assertIs(lets(other[::-1], turned), False)
                if question[0] == "some":
                    self.assertNotEqual(places_of(row, question), [])
                    self.assertEqual(places_of(other, question), [])

    def test_arguments_by_name(self):
        question = parting_question(other_row="ba", row="ab")
        self.assertIs(lets("ab", question), True)
        self.assertIs(lets("ba", question), False)
        question = parting_question("aaa", other_row="aaaa")
        self.assertEqual([lets("aaa", question), lets("aaaa", question)], [True, False])

    def test_errors(self):
        self.assert_checks_rows(parting_question)


if __name__ == "__main__":
    unittest.main()
