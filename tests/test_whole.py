"""The program as a whole: what one function tells, the others tell, too, again and again."""

import unittest
from random import Random

from pickdepths.alike import answers, are_alike, classes, parting_depth, winning_picks
from pickdepths.asking import lets, parting_question, places_of
from pickdepths.counting import count_rows, has_length, lengths_to, nth_row, row_index
from pickdepths.deciding import are_equal, follows, least_row, parting_row
from pickdepths.games import EagerGame, Game
from pickdepths.questions import depth_of, is_question, letters_in, turned_question
from pickdepths.readings import read_question
from pickdepths.repeats import far_alike, far_lets, settled
from pickdepths.scopes import kind_count, least_alike, least_rows
from pickdepths.texts import show_question
from tests.checking import CheckingCase
from tests.reference import ANY, ONE_A, TWO, drawn_question, drawn_row, either
from tests.scoped import DEPTHS, drawn_questions, every_other, great_questions

GREAT = 10 ** 30
ROW, OTHER = "aabab", "abaab"
BLOCKS = [("ab", GREAT), ([("a", 2), ("b", 5)], 3)]
QUESTION = ("both", TWO, ("not", ("some", ANY, "b", ONE_A)))

# Functions with arguments that they are right for.
CALLS = (
    (are_alike, (ROW, OTHER, 2)), (parting_depth, (ROW, OTHER)), (classes, ([ROW, OTHER, "", ROW], 2)),
    (answers, (ROW, OTHER, 2, 1)), (winning_picks, (ROW, OTHER, 3)), (is_question, (QUESTION,)),
    (depth_of, (QUESTION,)), (letters_in, (QUESTION,)), (turned_question, (QUESTION,)), (lets, (ROW, QUESTION)),
    (places_of, (ROW, TWO)), (parting_question, (ROW, OTHER)), (far_alike, (BLOCKS, [("ab", 9)], 2)),
    (far_lets, (BLOCKS, QUESTION)), (settled, ("ab", 3)), (kind_count, (2, 2)), (least_rows, (2, 2)),
    (least_alike, (ROW, 2, 2)), (least_row, (QUESTION, 2)), (are_equal, (QUESTION, TWO, 2)),
    (parting_row, (QUESTION, TWO, 2)), (follows, (QUESTION, TWO, 2)), (count_rows, (QUESTION, 2, 50)),
    (nth_row, (QUESTION, 2, 50, 3)), (row_index, (TWO, 2, ROW)), (has_length, (QUESTION, 2, GREAT)),
    (lengths_to, (QUESTION, 2, 50)), (show_question, (QUESTION,)), (read_question, ("[* a !*]",)),
)


def spoiled(value):
    """Change every list in a value."""
    if isinstance(value, list):
        for item in value:
            spoiled(item)
        value.reverse()
        value.append("spoiled")


class AgainTest(CheckingCase):

    def test_asked_again_behind_others(self):
        drawn = Random(131)
        told = {}
        for _ in range(12):
            calls = list(CALLS)
            drawn.shuffle(calls)
            for function, arguments in calls:
                value = function(*arguments)
                self.assertEqual(told.setdefault(function.__name__, repr(value)), repr(value))
                spoiled(value)

    def test_arguments_stay(self):
        before = repr([arguments for _, arguments in CALLS])
        for function, arguments in CALLS:
            spoiled(function(*arguments))
        self.assertEqual(repr([arguments for _, arguments in CALLS]), before)

    def test_what_is_passed_may_be_changed_later(self):
        rows, blocks = [ROW, OTHER], [([("ab", 3)], 2)]
        told = [classes(rows, 2), far_alike(blocks, [("ab", 9)], 2)]
        again = repr(told)
        rows.append("zzz")
        blocks[0][0].append(("c", 1))
        self.assertEqual(repr(told), again)
        self.assertIs(far_alike(blocks, [("ab", 9)], 2), False)

    def test_lists_within_lists_are_new(self):
        told = classes(["a", "b", "a"], 1)
        told[0].append(7)
        self.assertEqual(classes(["a", "b", "a"], 1), [[0, 2], [1]])


class CountsTest(CheckingCase):

    def questions(self):
        for many in range(1, 5):
            for question in drawn_questions(many)[::4] + great_questions(many):
                yield many, question

    def test_least_rows_and_lengths(self):
        for many, question in self.questions():
            lengths = lengths_to(question, many, 40)
            row = least_row(question, many)
            if row is None:
                self.assertEqual(lengths, [])
                self.assertIs(has_length(question, many, GREAT), False)
            else:
                self.assertEqual(lengths[0], len(row))
                self.assertEqual(nth_row(question, many, len(row), 0), row)
                self.assertEqual(row_index(question, many, row), 0)

    def test_counts_and_lengths(self):
        for many, question in self.questions():
            lengths = lengths_to(question, many, 20)
            for length in range(0, 21, 4):
                told = count_rows(question, many, length) > 0
                self.assertIs(told, length in lengths)
                self.assertIs(told, has_length(question, many, length))

    def test_questions_that_are_decided(self):
        for many in range(1, 5):
            questions = drawn_questions(many)[::5]
            for one in questions:
                for two in questions[::3]:
                    self.assert_decided(one, two, many)

    def assert_decided(self, one, two, many):
        """Counts tell what rows let just one of two questions."""
        just_one = either(("both", one, ("not", two)), ("both", two, ("not", one)))
        row = parting_row(one, two, many)
        self.assertEqual(least_row(just_one, many), row)
        self.assertIs(are_equal(one, two, many), lengths_to(just_one, many, 30) == [])
        self.assertIs(follows(one, two, many), lengths_to(("both", one, ("not", two)), many, 30) == [])
        if row is None:
            for length in (0, 5, 40):
                self.assertEqual(count_rows(one, many, length), count_rows(two, many, length))
        else:
            self.assertEqual(row_index(just_one, many, row), 0)
            self.assertNotEqual(lets(row, one), lets(row, two))

    def test_turned_questions_count_the_same(self):
        for many, question in self.questions():
            turned = turned_question(question)
            for length in (0, 3, 17, 60):
                self.assertEqual(count_rows(question, many, length), count_rows(turned, many, length))

    def test_kinds_share_all_rows(self):
        # Each row is alike to one least row: questions that tell the kinds count all rows.
        for many, length in ((1, 30), (2, 12), (3, 20), (4, 20)):
            rows = least_rows(many, 1)
            questions = [self.kind_question(row, many) for row in rows]
            self.assertEqual(sum(count_rows(question, many, length) for question in questions), many ** length)
            for row, question in zip(rows, questions):
                self.assertEqual(least_row(question, many), row)
                if count_rows(question, many, length):
                    self.assertEqual(least_alike(nth_row(question, many, length, 0), many, 1), row)

    def kind_question(self, row, many):
        question = ANY
        for letter in "abcd"[:many]:
            one = ("some", ANY, letter, ANY)
            question = ("both", question, one if letter in row else ("not", one))
        return question

    def test_rows_by_index_are_alike_to_least_rows_that_are_let(self):
        for many, question in self.questions():
            count = count_rows(question, many, 30)
            if count > 0:
                row = nth_row(question, many, 30, count // 2)
                least = least_alike(row, many, DEPTHS[many])
                self.assertIs(lets(least, question), True)
                first = least_row(question, many)
                self.assertLessEqual((len(first), first), (len(least), least))


class FarTest(CheckingCase):

    def test_far_rows_of_one_letter_are_all_the_rows_of_a_length(self):
        drawn = Random(132)
        for _ in range(60):
            question = drawn_question(drawn, "a", 3, 30)
            for times in (0, 1, 2, 3, 5, 6, 7, 8, 100, GREAT - 1, GREAT):
                self.assertIs(far_lets([("a", times)], question), has_length(question, 1, times))
        for times in range(20):
            self.assertIs(has_length(every_other(6), 1, times), far_lets([("a", times)], every_other(6)))

    def test_settled_repeats_let_the_same(self):
        for depth in range(4):
            times = settled("a", depth)
            self.assertEqual(kind_count(1, depth), times + 1)
            self.assertEqual(least_alike("a" * 40, 1, depth), "a" * times)
            self.assertIs(far_alike([("a", times)], [("a", GREAT)], depth), True)
            self.assertIs(Game("a" * times, "a" * 40, depth).can_last, True)
            if times > 0:
                self.assertIs(Game("a" * (times - 1), "a" * 40, depth).can_last, False)

    def test_rows_of_few_letters_let_what_far_rows_let(self):
        for question in drawn_questions(2)[::3]:
            for part in ("a", "ab", "ba", "bba"):
                row = part * 13
                self.assertIs(far_lets([(part, GREAT)], question), lets(row[:39], question))
                self.assertIs(lets(least_alike(row, 2, 2), question), lets(row, question))


class GamesTest(CheckingCase):

    def test_games_and_rows(self):
        drawn = Random(133)
        for letters, longest in (("ab", 8), ("abc", 12), ("a", 40), ("ab", 40)):
            for _ in range(25):
                row, other = drawn_row(drawn, letters, longest), drawn_row(drawn, letters, longest)
                least = parting_depth(row, other)
                for picks in range(7):
                    told = Game(row, other, picks).can_last
                    self.assertIs(told, are_alike(row, other, picks))
                    self.assertIs(told, least is None or picks < least)
                    self.assertIs(told, winning_picks(row, other, picks) == [])
                    self.assertIs(told, classes([row, other], picks) == [[0, 1]])
                    self.assertIs(told, EagerGame(other, row, picks).can_last)

    def test_parts_may_be_passed_on(self):
        drawn = Random(134)
        for _ in range(40):
            row, other = drawn_row(drawn, "ab", 12), drawn_row(drawn, "ab", 12)
            game = EagerGame(row + "a", other + "a", 4)
            game.pick(0, drawn.randint(0, len(row)))
            told = [Game(part, other_part, game.picks_left).can_last for part, other_part in game.parts]
            if len(game) == 2:
                self.assertIs(game.can_last, all(told))
                self.assertIs(all(told), all(are_alike(*parts, 3) for parts in game.parts))

    def test_rows_by_index_in_a_game(self):
        # Rows with a hundred letters, which are told by index, can be passed on.
        row, other = nth_row(TWO, 2, 100, 2 ** 99), nth_row(TWO, 2, 100, 2 ** 99 + 1)
        self.assertEqual([len(row), row_index(TWO, 2, row)], [100, 2 ** 99])
        least = parting_depth(row, other)
        for picks in (least - 1, least):
            game = EagerGame(row, other, picks)
            self.assertIs(game.can_last, picks < least)
            game.pick(0, 50)
            self.assertEqual(len(game), 2)


class TextsTest(CheckingCase):

    def test_questions_that_are_read_tell_the_same(self):
        for row, other in (("ab", "ba"), ("aab", "aba"), ("aaa", "aaaa"), ("abcabc", "abcacb")):
            question = parting_question(row, other)
            told = read_question(show_question(question))
            self.assertEqual([lets(row, told), lets(other, told)], [True, False])
            self.assertEqual(depth_of(told), parting_depth(row, other))
        for many in range(1, 5):
            for question in drawn_questions(many)[::6]:
                told = read_question(show_question(question))
                self.assertIs(are_equal(told, question, many), True)
                self.assertEqual(count_rows(told, many, 100), count_rows(question, many, 100))

    def test_great_texts_may_be_passed_on(self):
        text = "[* a *]"
        for at in range(7):
            text = "(" + text + " & !!" + text + ")" if at % 3 else "[" + text + " b " + text + "]"
        self.assertIn(len(text), range(1500, 4001))
        question = read_question(text)
        self.assertEqual(show_question(question), text)
        self.assertEqual([depth_of(question), letters_in(question)], [4, ["a", "b"]])
        # An a between all the seven b, and ahead of them and behind them: eight in all.
        self.assertIs(lets("ab" * 7 + "a", question), True)
        self.assertIs(lets("ab" * 7, question), False)
        self.assertIs(lets("ab" * 7, ("not", question)), True)
        self.assertEqual(places_of("ab" * 20, question), list(range(7, 32, 2)))


if __name__ == "__main__":
    unittest.main()
