"""Point 5: what a row lets, and the places at which a question is met."""

import unittest
from random import Random
from string import ascii_lowercase

from pickdepths.alike import are_alike
from pickdepths.asking import lets, places_of
from pickdepths.questions import depth_of, turned_question
from tests import reference
from tests.checking import BAD_ROWS, CheckingCase
from tests.reference import (
    ANY, ONE_A, ONE_B, TWO, at_least, count_parts, drawn_question, drawn_row, either, none_of, nots,
    short_rows, some)

FORTY = "a" * 40
TURNS = "ab" * 20
NO_LETTERS = none_of(ascii_lowercase)
WRONG = (None, 0, True, "any", (), [], ["any"], ("any", ANY), ("not",), ("both", ANY),
         ("some", "a"), ("some", ANY, "A", ANY), ("some", ANY, "ab", ANY), ("not", None),
         ("both", ONE_A, ["any"]), some(ANY, "a", ("some", ANY)), b"any", object())


def drawn_questions():
    drawn = Random(7)
    return [drawn_question(drawn, "abc", drawn.randint(0, 4), drawn.randint(1, 40))
            for _ in range(300)]


def drawn_rows():
    drawn = Random(8)
    return [drawn_row(drawn, "ab", 9) for _ in range(12)] + [
        drawn_row(drawn, "abc", 7) for _ in range(12)]


class ExamplesTest(unittest.TestCase):

    def test_examples_of_the_document(self):
        self.assertEqual(
            [lets("aba", TWO), lets("ab", TWO), lets("ab", ("not", TWO)), places_of("aba", TWO),
             places_of("abca", ONE_A)],
            [True, False, True, [2], [0, 3]])


class LetsTest(CheckingCase):

    def test_every_row_lets_any(self):
        for row in ("", "a", "z", "pickdepths", FORTY, TURNS):
            self.assertIs(lets(row, ANY), True)
            self.assertIs(lets(row, ("not", ANY)), False)

    def test_the_empty_row(self):
        for question in (ONE_A, TWO, some(("not", ANY), "a", ANY), ("both", ANY, ONE_A)):
            self.assertIs(lets("", question), False)
            self.assertIs(lets("", ("not", question)), True)
        self.assertIs(lets("", ("both", ANY, ANY)), True)
        self.assertIs(lets("", NO_LETTERS), True)

    def test_some_asks_for_the_letter(self):
        for letter in ascii_lowercase:
            question = some(ANY, letter, ANY)
            for row in ("a", "z", "mno", "the", "", ascii_lowercase):
                self.assertIs(lets(row, question), letter in row)

    def test_some_asks_for_what_stands_ahead_and_behind(self):
        question = some(ONE_A, "b", ONE_A)
        for row, told in (("aba", True), ("ab", False), ("ba", False), ("abba", True),
                          ("aab", False), ("baa", False), ("bab", False), ("babab", True)):
            self.assertIs(lets(row, question), told)
        self.assertIs(lets("ab", some(ONE_A, "b", ANY)), True)
        self.assertIs(lets("ba", some(ONE_A, "b", ANY)), False)
        self.assertIs(lets("ab", some(ANY, "b", ONE_A)), False)
        self.assertIs(lets("ba", some(ANY, "b", ONE_A)), True)

    def test_the_place_itself_stands_neither_ahead_nor_behind(self):
        self.assertIs(lets("a", some(ONE_A, "a", ANY)), False)
        self.assertIs(lets("a", some(ANY, "a", ONE_A)), False)
        self.assertIs(lets("aa", some(ONE_A, "a", ONE_A)), False)
        self.assertIs(lets("aaa", some(ONE_A, "a", ONE_A)), True)

    def test_ahead_and_behind_are_asked_of_one_place(self):
        # Each of the two b has one of what is asked for, and none of them has both.
        question = some(some(ANY, "a", ANY), "b", some(ANY, "c", ANY))
        self.assertIs(lets("bcab", question), False)
        self.assertIs(lets("abcb", question), True)

    def test_a_question_within_is_asked_of_a_part_of_the_row(self):
        # The letter that stands last in the row is not the last one of what stands ahead.
        last_b = some(ANY, "b", NO_LETTERS)
        self.assertIs(lets("abab", some(last_b, "a", ANY)), True)
        self.assertIs(lets("aab", some(last_b, "a", ANY)), False)
        first_b = some(NO_LETTERS, "b", ANY)
        self.assertIs(lets("abab", some(ANY, "a", first_b)), True)
        self.assertIs(lets("baa", some(ANY, "a", first_b)), False)

    def test_not_is_the_contrary_and_both_is_both(self):
        questions = reference.plain_questions() + [TWO, some(ONE_B, "a", ("not", ONE_A))]
        for row in short_rows("ab", 3):
            for question in questions:
                self.assertIs(lets(row, ("not", question)), not lets(row, question))
                for other in questions:
                    self.assertIs(
                        lets(row, ("both", question, other)),
                        lets(row, question) and lets(row, other))

    def test_short_rows_by_the_words_of_point_5(self):
        questions = reference.nested_questions()[::3]
        rows = short_rows("ab", 4) + ["cabc", "azb", "bbaca", "zacbz"]
        for question in questions:
            for row in rows:
                self.assertIs(lets(row, question), reference.lets(row, question), (row, question))

    def test_drawn_questions_by_the_words_of_point_5(self):
        rows = drawn_rows()
        for question in drawn_questions():
            for row in rows:
                self.assertIs(lets(row, question), reference.lets(row, question), (row, question))

    def test_so_many_of_a_letter_or_more(self):
        rows = ("", "a", FORTY, TURNS, "b" * 40, "aab" * 13, "abc" * 13 + "a", "b" * 20 + "a" * 20)
        for many in list(range(8)) + [12, 13, 14, 19, 20, 21, 26, 27, 39, 40, 41]:
            for row in rows:
                self.assertIs(lets(row, at_least(many, "a")), row.count("a") >= many, (row, many))

    def test_a_first_and_a_last_letter(self):
        for row in ("a", "b", "ab", "bazaar", "zebra", FORTY, "b" + "a" * 39, "a" * 39 + "b",
                    "cab" * 13, ""):
            for letter in "abc":
                self.assertIs(lets(row, some(NO_LETTERS, letter, ANY)), row.startswith(letter))
                self.assertIs(lets(row, some(ANY, letter, NO_LETTERS)), row.endswith(letter))

    def test_a_letter_side_by_side_with_another_one(self):
        nothing = none_of("abc")
        for row in ("ab", "ba", "acb", "aab", "abab", "cabbac", TURNS, "ba" * 20, "a" * 20 + "b" * 20,
                    "acb" * 13, "acb" * 12 + "abca", "b" * 39 + "a", ""):
            for one in "abc":
                for two in "abc":
                    self.assertIs(
                        lets(row, some(ANY, one, some(nothing, two, ANY))), one + two in row)
                    self.assertIs(
                        lets(row, some(some(ANY, one, nothing), two, ANY)), one + two in row)

    def test_just_one_of_a_row_of_forty_letters(self):
        # Only the place with nineteen letters ahead has b behind the last a.
        row = "a" * 19 + "b" * 21
        question = some(at_least(18, "a"), "a", none_of("a"))
        self.assertIs(lets(row, question), True)
        self.assertIs(lets("a" * 18 + "b" * 22, question), False)

    def test_two_hundred_parts(self):
        self.assertIs(lets("ab", nots(198, ANY)), True)
        self.assertIs(lets("ab", nots(199, ANY)), False)
        self.assertIs(lets("ab", nots(196, ONE_B)), True)
        self.assertIs(lets("a", nots(197, ONE_B)), True)
        left = right = ANY
        for _ in range(49):
            left, right = ("both", left, ONE_A), ("both", ONE_A, right)
        for question in (left, right):
            self.assertEqual(count_parts(question), 197)
            self.assertIs(lets("ba", question), True)
            self.assertIs(lets("bb", question), False)

    def test_forty_letters_and_depth_6(self):
        full = at_least(63, "a")
        self.assertEqual([depth_of(full), count_parts(full)], [6, 127])
        self.assertIs(lets(FORTY, full), False)
        self.assertIs(lets(FORTY, ("not", full)), True)
        forty = at_least(40, "a")
        self.assertEqual(depth_of(forty), 6)
        self.assertIs(lets(FORTY, forty), True)
        self.assertIs(lets(FORTY[1:], forty), False)
        self.assertIs(lets("ab" * 19 + "aa", forty), False)

    def test_rows_that_are_alike_let_the_same(self):
        questions = [question for question in drawn_questions() if depth_of(question) <= 3]
        for part, less, more in (("a", 7, 8), ("ab", 7, 9), ("aba", 7, 8), ("abc", 7, 10)):
            self.assertIs(are_alike(part * less, part * more, 3), True)
            for question in questions:
                self.assertIs(lets(part * less, question), lets(part * more, question))
        self.assertGreater(len(questions), 100)

    def test_short_rows_that_are_alike_let_the_same(self):
        rows = short_rows("ab", 4)
        questions = drawn_questions()[:100]
        for question in questions:
            depth = depth_of(question)
            told = {row: lets(row, question) for row in rows}
            for row in rows:
                for other in rows:
                    if told[row] != told[other]:
                        self.assertIs(are_alike(row, other, depth), False)

    def test_turned_rows_let_turned_questions(self):
        for question in drawn_questions()[::2]:
            turned = turned_question(question)
            for row in drawn_rows() + [TURNS, "abc" * 13]:
                self.assertIs(lets(row[::-1], turned), lets(row, question))

    def test_arguments_by_name(self):
        self.assertIs(lets(question=TWO, row="aba"), True)
        self.assertIs(lets("ab", question=TWO), False)

    def test_signs_that_are_no_letters(self):
        for bad, index in BAD_ROWS:
            self.assert_checks_row(lets, bad, index, ANY)
            self.assert_checks_row(lets, bad, index, TWO)
            self.assert_checks_row(lets, bad, index, None)

    def test_wrong_questions(self):
        for wrong in WRONG:
            self.assert_no_question(wrong, lets, "ab", wrong)
            self.assert_no_question(wrong, lets, question=wrong, row="")


class PlacesTest(CheckingCase):

    def test_all_places_and_no_others(self):
        self.assertEqual(places_of("abcab", ONE_A), [0, 3])
        self.assertEqual(places_of("abcab", ONE_B), [1, 4])
        self.assertEqual(places_of("aaaa", TWO), [1, 2, 3])
        self.assertEqual(places_of("aaaa", some(ANY, "a", ONE_A)), [0, 1, 2])
        self.assertEqual(places_of("aaaa", some(ONE_A, "a", ONE_A)), [1, 2])
        self.assertEqual(places_of("babab", some(ONE_A, "b", ONE_A)), [2])
        self.assertEqual(places_of("ab", some(ANY, "c", ANY)), [])
        self.assertEqual(places_of("", ONE_A), [])

    def test_first_and_last_places(self):
        self.assertEqual(places_of("aba", some(none_of("ab"), "a", ANY)), [0])
        self.assertEqual(places_of("aba", some(ANY, "a", none_of("ab"))), [2])
        self.assertEqual(places_of("a", some(none_of("a"), "a", none_of("a"))), [0])

    def test_short_rows_by_the_words_of_point_5(self):
        questions = [part for part in reference.nested_questions()[::3] if part[0] == "some"]
        self.assertGreater(len(questions), 30)
        for question in questions:
            for row in short_rows("ab", 4) + ["cabc", "zazb"]:
                self.assertEqual(places_of(row, question), reference.places(row, question))

    def test_drawn_questions(self):
        questions = [part for part in drawn_questions() if part[0] == "some"]
        self.assertGreater(len(questions), 100)
        for question in questions:
            for row in drawn_rows():
                told = places_of(row, question)
                self.assertEqual(told, reference.places(row, question))
                self.assertIs(told != [], lets(row, question))
                for place in range(len(row)):
                    met = row[place] == question[2] and lets(row[:place], question[1])
                    met = met and lets(row[place + 1:], question[3])
                    self.assertIs(met, place in told)

    def test_forty_letters(self):
        self.assertEqual(places_of(FORTY, at_least(40, "a")), [19])
        self.assertEqual(places_of(FORTY, at_least(39, "a")), [19, 20])
        self.assertEqual(places_of(TURNS, some(at_least(5, "a"), "b", at_least(6, "b"))),
                         list(range(9, 28, 2)))
        self.assertEqual(places_of(FORTY, some(nots(99, ANY), "a", ANY)), [])
        self.assertEqual(places_of(FORTY, some(nots(98, ANY), "a", ANY)), list(range(40)))

    def test_turned(self):
        for question in (TWO, some(ONE_A, "b", TWO), some(none_of("ab"), "a", ONE_B)):
            for row in drawn_rows():
                told = places_of(row[::-1], turned_question(question))
                self.assertEqual(sorted(len(row) - 1 - place for place in told),
                                 places_of(row, question))

    def test_the_list_is_new(self):
        told = places_of("abab", ONE_A)
        self.assert_list_of_integers(told)
        told.append(9)
        self.assertEqual(places_of("abab", ONE_A), [0, 2])
        self.assertEqual(places_of("", ONE_A), [])

    def test_arguments_by_name(self):
        self.assertEqual(places_of(question=TWO, row="aba"), [2])
        self.assertEqual(places_of("aba", question=TWO), [2])

    def test_signs_that_are_no_letters(self):
        for bad, index in BAD_ROWS:
            self.assert_checks_row(places_of, bad, index, ONE_A)
            self.assert_checks_row(places_of, bad, index, ANY)
            self.assert_checks_row(places_of, bad, index, None)

    def test_wrong_questions(self):
        for wrong in WRONG:
            self.assert_no_question(wrong, places_of, "ab", wrong)
            self.assert_no_question(wrong, places_of, question=wrong, row="")

    def test_questions_of_another_kind(self):
        for question in (ANY, ("not", ONE_A), ("both", ONE_A, ONE_A), ("both", ANY, TWO), nots(2, TWO),
                         either(ONE_A, ONE_B)):
            self.assert_no_question(question, places_of, "ab", question)
            self.assert_no_question(question, places_of, question=question, row="")
            self.assert_checks_row(places_of, "aB", 1, question)


if __name__ == "__main__":
    unittest.main()
