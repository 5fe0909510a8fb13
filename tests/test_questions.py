"""Point 5: what is a question, its depth and letters, and questions turned round."""

import unittest
from string import ascii_lowercase

from pickdepths.errors import InvalidQuestion
from pickdepths.questions import depth_of, is_question, letters_in, turned_question
from tests import reference
from tests.reference import ANY, ONE_A, ONE_B, TWO, nots, short_rows, some


class Equal:
    """Equal to everything."""

    def __eq__(self, other):
        return True

    def __hash__(self):
        return hash("any")


class Odd:
    """Nothing can be done with it."""

    def __eq__(self, other):
        raise AssertionError("compared")

    def __bool__(self):
        raise AssertionError("tested")

    def __len__(self):
        raise AssertionError("measured")

    def __iter__(self):
        raise AssertionError("iterated over")

    __hash__ = None


def left_boths(many):
    question = ANY
    for _ in range(many):
        question = ("both", question, ONE_A)
    return question


def right_boths(many):
    question = ONE_B
    for _ in range(many):
        question = ("both", ANY, question)
    return question


def full_question(depth):
    """A question of a depth with all places for questions filled to the end."""
    if depth == 0:
        return ANY
    return some(full_question(depth - 1), "m", full_question(depth - 1))


QUESTIONS = reference.nested_questions() + [
    ONE_A, TWO, nots(1), nots(199), left_boths(49), right_boths(49), full_question(6),
    nots(3, ("both", nots(2, TWO), nots(1, ONE_B))), some(left_boths(9), "q", right_boths(9)),
]

NO_LETTERS = ("", "ab", "aa", "A", "Z", "1", " ", "`", "{", "\u00e9", "\u00df", "\uff41", "\u0430",
              "a ", "\n", "any", b"a", b"", 97, 0, None, True, ["a"], ("a",), {"a": 1}, {"a"},
              ANY, object(), Equal(), Odd())

NO_QUESTIONS = [
    None, True, False, 0, 1, -7, 10 ** 30, "", "a", "any", "*", "('any',)", b"any", b"", (), [], {},
    set(), frozenset(["any"]), object(), int, len, Equal(), Odd(), Ellipsis, range(1), 2j,
    ["any"], ["not", ANY], ["both", ANY, ANY], ["some", ANY, "a", ANY], {"any"}, {"any": 1},
    ("any", "any"), ("any", ANY), ("any", None), ("any", "a"), ("any", ()), (ANY,), (ANY, ANY),
    ("not",), ("not", ANY, ANY), ("not", None), ("not", "any"), ("not", ()), ("not", ["any"]),
    ("not", "a"), ("not", True), ("not", "not"),
    ("both",), ("both", ANY), ("both", ANY, ANY, ANY), ("both", ANY, None), ("both", None, ANY),
    ("both", ["any"], ANY), ("both", ANY, ["any"]), ("both", (ANY, ANY)), ("both", "any", "any"),
    ("some",), ("some", "a"), ("some", ANY), ("some", ANY, "a"), ("some", "a", ANY),
    ("some", ANY, ANY, "a"), ("some", "a", ANY, ANY), ("some", ANY, "a", ANY, ANY),
    ("some", None, "a", ANY), ("some", ANY, "a", None), ("some", ["any"], "a", ANY),
    ("some", ANY, "a", ["any"]), ("some", "any", "a", "any"), ("some", (), "a", ANY),
    ("Any",), ("ANY",), ("any ",), ("",), ("all",), ("none",), ("a",), ("or", ANY, ANY),
    ("either", ANY, ANY), ("Not", ANY), ("and", ANY, ANY), ("Both", ANY, ANY),
    ("Some", ANY, "a", ANY), ("every", ANY, "a", ANY), ("\u0430ny",),
    (None,), (0,), (1, ANY), (b"any",), (b"not", ANY), (True, ANY), ([],), ([], ANY), ({}, ANY, ANY),
    (("any",),), (["any"],), (Equal(),), (Equal(), ANY), (Equal(), ANY, ANY), (Odd(),), (Odd(), ANY),
    (Equal(), ANY, "a", ANY), (object(), ANY), ("not", Equal()), ("not", Odd()), ("not", object()),
    ("both", ANY, Equal()), ("both", Odd(), ANY), ("some", ANY, "a", Odd()),
] + [("some", ANY, sign, ANY) for sign in NO_LETTERS]


def wrong_deep_within():
    """Values that are questions but for something deep within."""
    for wrong in (None, "any", ["any"], ("any", ANY), ("not",), ("some", ANY, "A", ANY), (), Odd()):
        yield nots(30, wrong)
        for wrapped in (("both", TWO, wrong), ("both", wrong, TWO),
                        some(wrong, "a", ANY), some(ANY, "a", wrong)):
            yield wrapped
            yield ("not", wrapped)
            yield some(ONE_A, "b", ("both", wrapped, ANY))
            yield some(("both", ANY, wrapped), "b", ONE_A)
            yield nots(5, some(ANY, "z", nots(5, some(wrapped, "a", ANY))))


def lists_within_lists():
    value = []
    for _ in range(39):
        value = [value]
    return value


ALL_WRONG = NO_QUESTIONS + list(wrong_deep_within()) + [lists_within_lists()]


class ExamplesTest(unittest.TestCase):

    def test_examples_of_the_document(self):
        self.assertEqual(
            [is_question(TWO), is_question(("some", "a")), depth_of(TWO), letters_in(TWO),
             turned_question(TWO) == ("some", ("any",), "a", ONE_A)],
            [True, False, 2, ["a"], True])


class IsQuestionTest(unittest.TestCase):

    def test_each_of_the_four_kinds(self):
        for question in (ANY, ("not", ANY), ("both", ANY, ANY), ("some", ANY, "a", ANY)):
            self.assertIs(is_question(question), True)
            self.assertIs(is_question(("not", question)), True)
            self.assertIs(is_question(("both", question, ANY)), True)
            self.assertIs(is_question(("both", ANY, question)), True)
            self.assertIs(is_question(some(question, "b", ANY)), True)
            self.assertIs(is_question(some(ANY, "b", question)), True)

    def test_every_letter(self):
        for letter in ascii_lowercase:
            self.assertIs(is_question(some(ANY, letter, ANY)), True)

    def test_questions(self):
        for question in QUESTIONS:
            self.assertIs(is_question(question), True)

    def test_values_that_are_none(self):
        for at, value in enumerate(ALL_WRONG):
            with self.subTest(at=at):
                self.assertIs(is_question(value), False)

    def test_a_value_is_not_modified(self):
        value = ["not", ["any"]]
        self.assertIs(is_question(value), False)
        self.assertIs(is_question(("not", value)), False)
        self.assertEqual(value, ["not", ["any"]])

    def test_argument_by_name(self):
        self.assertIs(is_question(value=ANY), True)
        self.assertIs(is_question(value=None), False)


class QuestionCheckTest(unittest.TestCase):

    def test_the_error_has_the_value_itself(self):
        for function in (depth_of, letters_in, turned_question):
            for at, value in enumerate(ALL_WRONG):
                with self.subTest(function=function.__name__, at=at):
                    with self.assertRaises(InvalidQuestion) as caught:
                        function(value)
                    self.assertIs(type(caught.exception), InvalidQuestion)
                    self.assertIs(caught.exception.value, value)
                    with self.assertRaises(InvalidQuestion):
                        function(question=value)


class DepthTest(unittest.TestCase):

    def test_each_kind(self):
        self.assertEqual(depth_of(ANY), 0)
        self.assertEqual(depth_of(nots(3)), 0)
        self.assertEqual(depth_of(("both", ANY, ANY)), 0)
        self.assertEqual(depth_of(ONE_A), 1)
        self.assertEqual(depth_of(("not", TWO)), 2)

    def test_the_greater_one_counts(self):
        self.assertEqual(depth_of(("both", ONE_A, TWO)), 2)
        self.assertEqual(depth_of(("both", TWO, ONE_A)), 2)
        self.assertEqual(depth_of(some(TWO, "a", ANY)), 3)
        self.assertEqual(depth_of(some(ANY, "a", TWO)), 3)
        self.assertEqual(depth_of(some(ONE_A, "a", TWO)), 3)

    def test_by_the_words_of_point_5(self):
        for question in QUESTIONS:
            self.assertEqual(depth_of(question), reference.depth_by_words(question))
            self.assertIs(type(depth_of(question)), int)

    def test_at_the_bounds(self):
        self.assertEqual(depth_of(full_question(6)), 6)
        self.assertEqual(depth_of(nots(199)), 0)
        self.assertEqual(depth_of(nots(197, ONE_A)), 1)
        self.assertEqual(depth_of(left_boths(49)), 1)
        self.assertEqual(depth_of(nots(900, TWO)), 2)

    def test_argument_by_name(self):
        self.assertEqual(depth_of(question=TWO), 2)


class LettersTest(unittest.TestCase):

    def test_each_kind(self):
        self.assertEqual(letters_in(ANY), [])
        self.assertEqual(letters_in(("not", ANY)), [])
        self.assertEqual(letters_in(("not", ONE_B)), ["b"])
        self.assertEqual(letters_in(("both", ONE_B, ONE_A)), ["a", "b"])
        self.assertEqual(letters_in(some(some(ANY, "z", ANY), "m", some(ANY, "b", ANY))),
                         ["b", "m", "z"])

    def test_each_letter_once(self):
        self.assertEqual(letters_in(some(TWO, "a", TWO)), ["a"])
        self.assertEqual(letters_in(("both", TWO, ("not", some(ONE_B, "a", ONE_B)))), ["a", "b"])

    def test_all_letters(self):
        question = ANY
        for letter in "qwertyuiopasdfghjklzxcvbnm" + "qwertyuiop":
            question = ("both", some(ANY, letter, ANY), question)
        self.assertEqual(letters_in(question), list(ascii_lowercase))

    def test_by_words(self):
        for question in QUESTIONS:
            told = letters_in(question)
            self.assertEqual(told, reference.letters_by_words(question))
            self.assertIs(type(told), list)

    def test_the_list_is_new(self):
        letters_in(TWO).append("b")
        letters_in(ANY).append("b")
        self.assertEqual(letters_in(TWO), ["a"])
        self.assertEqual(letters_in(ANY), [])

    def test_argument_by_name(self):
        self.assertEqual(letters_in(question=TWO), ["a"])


class TurnedTest(unittest.TestCase):

    def test_each_kind(self):
        self.assertEqual(turned_question(ANY), ANY)
        self.assertEqual(turned_question(("not", TWO)), ("not", some(ANY, "a", ONE_A)))
        self.assertEqual(turned_question(("both", TWO, ONE_B)),
                         ("both", some(ANY, "a", ONE_A), ONE_B))
        self.assertEqual(turned_question(("both", ONE_B, TWO)),
                         ("both", ONE_B, some(ANY, "a", ONE_A)))
        self.assertEqual(turned_question(some(ONE_A, "c", ONE_B)), some(ONE_B, "c", ONE_A))

    def test_exchanged_everywhere(self):
        inner = some(("not", ANY), "x", ANY)
        self.assertEqual(
            turned_question(some(inner, "y", ("both", ANY, inner))),
            some(("both", ANY, some(ANY, "x", ("not", ANY))), "y", some(ANY, "x", ("not", ANY))))

    def test_by_words(self):
        for question in QUESTIONS:
            self.assertEqual(turned_question(question), reference.turned_by_words(question))

    def test_turned_twice(self):
        for question in QUESTIONS:
            turned = turned_question(question)
            self.assertIs(is_question(turned), True)
            self.assertEqual(turned_question(turned), question)
            self.assertEqual(depth_of(turned), depth_of(question))
            self.assertEqual(letters_in(turned), letters_in(question))

    def test_rows_turned_round_let_it(self):
        questions = reference.nested_questions()
        for question in questions[:200:3] + [TWO, some(ONE_A, "b", ("not", ONE_A))]:
            turned = turned_question(question)
            for row in short_rows("ab", 4):
                self.assertIs(
                    reference.lets(row[::-1], turned), reference.lets(row, question))

    def test_at_the_bounds(self):
        self.assertEqual(turned_question(nots(197, ONE_A)), nots(197, ONE_A))
        self.assertEqual(turned_question(full_question(6)), full_question(6))

    def test_argument_by_name(self):
        self.assertEqual(turned_question(question=TWO), some(ANY, "a", ONE_A))


if __name__ == "__main__":
    unittest.main()
