"""The game of picks, held call by call against a plain book-keeping of picks and answers."""

import unittest
from random import Random

from pickdepths.alike import answers, are_alike, winning_picks
from pickdepths.errors import (
    GameOver, InvalidAnswer, InvalidNumber, InvalidPlace, InvalidRow, NothingToUndo)
from pickdepths.games import EagerGame, Game
from tests import reference
from tests.checking import CheckingCase
from tests.plain_game import PlainGame
from tests.playing import GameCase, drawn_games, play, told_of
from tests.reference import short_rows

FORTY = "a" * 40
TURNS = "ab" * 20
BOTH = (Game, EagerGame)


class ExamplesTest(unittest.TestCase):

    def test_examples_of_the_document(self):
        game = Game("aab", "ab", 2)
        self.assertEqual(
            [game.can_last, game.pick(0, 1), game.good_answers(), game.answer(0), game.parts,
             game.picks_left, game.can_last, len(game), game.undo(), game.story()],
            [False, None, [], None, [("a", ""), ("b", "b")], 1, False, 2, None, [("pick", 0, 1)]])


class GameTest(GameCase):

    def test_drawn_games_against_the_book_keeping(self):
        drawn = Random(101)
        made = {}
        for row, other, picks in drawn_games(102, 400) + drawn_games(103, 150, "abc", 8, 3):
            counts = self.assert_drawn_calls(Game(row, other, picks), PlainGame(row, other, picks), drawn, 40)
            for call, count in counts.items():
                made[call] = made.get(call, 0) + count
        for word in ("pick", "answer", "undo"):
            for right in (True, False):
                self.assertGreater(made[word, right], 200)

    def test_a_new_game(self):
        for row, other in (("", ""), ("a", ""), ("ab", "ba"), (FORTY, TURNS)):
            for picks in range(7):
                game = Game(row, other, picks)
                self.assertEqual([game.parts, game.picks_left, game.story(), len(game)],
                                 [[(row, other)], picks, [], 0])

    def test_the_answering_player_can_last_exactly_if_the_rows_are_alike(self):
        rows = short_rows("ab", 4)
        for row in rows:
            for other in rows:
                for picks in range(4):
                    self.assertIs(Game(row, other, picks).can_last, reference.alike(row, other, picks))

    def test_the_game_played_out(self):
        # By the game itself, without the parts: all picks and answers to the end.
        for row, other, picks in drawn_games(104, 200, "ab", 4, 3):
            game = Game(row, other, picks)
            drawn = Random(len(row))
            while game.picks_left > 0 and self.pick_somewhere(game, row, other, drawn):
                plain = PlainGame(row, other, picks)
                plain.calls = game.story()
                good = [place for place in plain.possible() if reference.can_last(
                    row, other, game.picks_left, tuple(plain.pairs() + [plain.pair_with(place)]))]
                self.assertEqual(game.good_answers(), good)
                self.assertIs(game.can_last, good != [])
                if not plain.possible():
                    break
                game.answer(drawn.choice(good or plain.possible()))
                pairs = tuple(plain.pairs() + [plain.pair_with(game.story()[-1][1])])
                self.assertIs(game.can_last, reference.can_last(row, other, game.picks_left, pairs))

    def pick_somewhere(self, game, row, other, drawn):
        """Pick a drawn free place, and tell whether there was one."""
        sides = [(side, place) for side in (0, 1) for place in range(len((row, other)[side]))]
        drawn.shuffle(sides)
        for side, place in sides:
            try:
                game.pick(side, place)
                return True
            except InvalidPlace:
                pass
        return False

    def test_one_letter_many_times(self):
        for picks in (4, 5, 6):
            many = 2 ** picks - 1
            for less, more in ((many, many + 1), (many - 1, many), (many - 2, many - 1), (many, many + 7)):
                row, other = "a" * less, "a" * more
                game = Game(row[:40], other[:40], picks)
                self.assertIs(game.can_last, less >= many or row[:40] == other[:40])
        game = Game(FORTY, FORTY[1:], 6)
        self.assertIs(game.can_last, False)
        self.assertIs(Game(FORTY, FORTY[1:], 5).can_last, True)
        game.pick(0, 20)
        self.assertEqual([game.can_last, game.good_answers(), game.picks_left], [False, [], 5])
        game.answer(20)
        self.assertEqual([game.can_last, game.parts], [False, [("a" * 20, "a" * 20), ("a" * 19, "a" * 18)]])

    def test_good_answers_last_all_picks(self):
        drawn = Random(105)
        pairs = [("a" * 31, "a" * 40, 5), ("a" * 15, "a" * 40, 4), (TURNS, TURNS, 6), (TURNS, TURNS[4:], 3),
                 ("ab" * 15, "ab" * 16, 4), ("abc" * 7, "abc" * 9, 3), ("a" * 40, "a" * 40, 6)]
        for row, other, picks in pairs + [(other, row, picks) for row, other, picks in pairs]:
            for _ in range(8):
                game = Game(row, other, picks)
                while game.picks_left > 0:
                    self.assertIs(game.can_last, True)
                    self.assertTrue(self.pick_somewhere(game, row, other, drawn))
                    self.assertIs(game.can_last, True)
                    game.answer(drawn.choice(game.good_answers()))
                self.assertIs(game.can_last, True)
                self.assertEqual(len(game), 2 * picks)

    def test_behind_a_winning_pick_no_answer_helps(self):
        for row, other, picks in (
                ("aab", "ab", 2), ("aaa", "aaaa", 3), (FORTY, FORTY[1:], 6), (TURNS, "ba" * 20, 2),
                ("abcab", "abcba", 3)):
            for side, place in winning_picks(row, other, picks)[::5]:
                game = Game(row, other, picks)
                game.pick(side, place)
                self.assertEqual([game.good_answers(), game.can_last], [[], False])
                for answer in range(len((other, row)[side])):
                    try:
                        game.answer(answer)
                    except InvalidAnswer:
                        continue
                    self.assertIs(game.can_last, False)
                    game.undo()

    def test_first_picks_are_answered_as_without_a_game(self):
        for row, other, picks in drawn_games(106, 80, "ab", 9, 5):
            winning = winning_picks(row, other, picks)
            for side, own, far in ((0, row, other), (1, other, row)):
                for place in range(len(own) if picks else 0):
                    game = Game(row, other, picks)
                    game.pick(side, place)
                    self.assertEqual(game.good_answers(), answers(own, far, picks, place))
                    self.assertIs(game.can_last, (side, place) not in winning)

    def test_a_part_that_is_lost_elsewhere(self):
        # The picks that are left can be made in a part in which the waiting one does not lie.
        begun = [("pick", 0, 2), ("answer", 1), ("pick", 1, 3)]
        game = play(Game("aabab", "abab", 4), begun)
        self.assertEqual([game.parts, game.picks_left], [[("aa", "a"), ("ab", "ab")], 2])
        self.assertEqual([game.good_answers(), game.can_last], [[], False])
        game.answer(4)
        self.assertIs(game.can_last, False)
        # With one pick less the parts "aa" and "a" are alike to what is left.
        game = play(Game("aabab", "abab", 3), begun)
        self.assertEqual([game.good_answers(), game.can_last, game.picks_left], [[4], True, 1])

    def test_the_parts_of_many_picks(self):
        game = Game("abcde", "aabcdde", 4)
        play(game, [("pick", 0, 3), ("answer", 4), ("pick", 1, 1), ("answer", 0), ("pick", 1, 2)])
        self.assertEqual(game.parts, [("", "a"), ("bc", "bc"), ("e", "de")])
        game.answer(1)
        self.assertEqual(game.parts, [("", "a"), ("", ""), ("c", "c"), ("e", "de")])
        self.assertEqual([game.picks_left, game.can_last], [1, False])
        self.assertEqual(play(Game("a", "a", 1), [("pick", 1, 0), ("answer", 0)]).parts, [("", ""), ("", "")])

    def test_told_lists_are_new(self):
        game = play(Game("abab", "abab", 3), [("pick", 0, 1), ("answer", 1), ("pick", 1, 2)])
        told = told_of(game)
        game.parts.append(("x", "y"))
        game.story().clear()
        game.good_answers().append(9)
        game.story()[0] = ("undo",)
        self.assertEqual(told_of(game), told)
        kept = game.story()
        game.answer(2)
        self.assertEqual(kept, [("pick", 0, 1), ("answer", 1), ("pick", 1, 2)])

    def test_two_games_on_the_same_rows(self):
        one, two = Game("abab", "abba", 3), Game("abab", "abba", 3)
        one.pick(0, 1)
        self.assertEqual([len(one), len(two), two.picks_left], [1, 0, 3])
        two.pick(1, 2)
        two.answer(1)
        self.assertEqual([one.story(), two.story()], [[("pick", 0, 1)], [("pick", 1, 2), ("answer", 1)]])
        one.undo()
        self.assertEqual([len(one), len(two)], [0, 2])

    def test_a_thousand_calls(self):
        drawn = Random(107)
        for row, other, picks in ((FORTY, FORTY[1:], 6), (TURNS, TURNS, 6), (TURNS, TURNS[::-1], 6)):
            game, plain = Game(row, other, picks), PlainGame(row, other, picks)
            for _ in range(1000):
                word = drawn.choice(["pick", "pick", "answer", "answer", "undo"])
                rest = {"pick": (drawn.randint(0, 1), drawn.randint(0, 39)), "undo": (),
                        "answer": (drawn.choice(plain.possible() or [0]) if plain.waiting() else 0,)}[word]
                error = getattr(plain, word + "_error")(*rest)
                if error is None:
                    getattr(plain, word)(*rest)
                    getattr(game, word)(*rest)
                self.assertEqual([game.story(), game.parts], [plain.calls, plain.parts()])
                alike = all(are_alike(*parts, game.picks_left) for parts in game.parts)
                self.assertIs(game.can_last, game.good_answers() != [] if plain.waiting() else alike)

    def test_arguments_by_name(self):
        for made in BOTH:
            game = made(picks=2, other_row="ab", row="aab")
            self.assertEqual([game.parts, game.picks_left], [[("aab", "ab")], 2])
            game.pick(place=2, side=0)
            self.assertEqual(game.story()[0], ("pick", 0, 2))
        game = Game("aab", other_row="ab", picks=2)
        game.pick(1, place=0)
        game.answer(place=0)
        self.assertEqual(game.story(), [("pick", 1, 0), ("answer", 0)])


class ErrorsTest(GameCase):

    def test_errors_of_new_games(self):
        for made in BOTH:
            for picks in (0, 2, 6, -1):
                self.assert_checks_rows(made, picks)
            for picks in (-1, -2, -100):
                for row, other in (("", ""), ("ab", "ba"), (FORTY, TURNS)):
                    self.assert_raises_exactly(InvalidNumber, picks, made, row, other, picks)
            self.assert_raises_exactly(InvalidRow, 1, made, picks=-1, other_row="A", row="aB")
            self.assert_raises_exactly(InvalidRow, 0, made, "ab", "A", -1)
            for picks in (7, 20, 100):
                self.assertEqual(made("ab", "abb", picks).picks_left, picks)

    def assert_unchanged(self, game, error, value, call, *rest):
        told = told_of(game)
        self.assert_raises_exactly(error, value, call, *rest)
        self.assertEqual(told_of(game), told)

    def test_errors_of_picks(self):
        for made in BOTH:
            game = made("aab", "ab", 2)
            for side in (-1, 2, 3, 100, -100):
                for place in (0, 1, -1, 99):
                    self.assert_unchanged(game, InvalidNumber, side, game.pick, side, place)
            for side, place in ((0, 3), (0, -1), (0, -3), (1, 2), (1, -1), (1, 100), (0, -100)):
                self.assert_unchanged(game, InvalidPlace, place, game.pick, side, place)
            none = made("aab", "", 0)
            self.assert_unchanged(none, InvalidNumber, 2, none.pick, 2, 9)
            self.assert_unchanged(none, InvalidPlace, 0, none.pick, 1, 0)
            self.assert_unchanged(none, InvalidPlace, 3, none.pick, 0, 3)
            self.assert_unchanged(none, GameOver, 0, none.pick, 0, 2)

    def test_picks_while_one_waits(self):
        game = play(Game("aab", "ab", 3), [("pick", 0, 2), ("answer", 1), ("pick", 0, 1)])
        self.assert_unchanged(game, InvalidNumber, 2, game.pick, 2, 1)
        for side, place in ((0, 2), (1, 1), (0, 1), (0, 3), (1, -1)):
            self.assert_unchanged(game, InvalidPlace, place, game.pick, side, place)
        # The place with the number of the waiting one is free in the other row, but it is no turn.
        for side, place in ((0, 0), (1, 0)):
            self.assert_unchanged(game, GameOver, 0, game.pick, side, place)

    def test_picks_when_all_are_made(self):
        game = play(Game("aab", "aab", 1), [("pick", 1, 1), ("answer", 0)])
        self.assertEqual([game.picks_left, game.can_last], [0, True])
        for side, place in ((1, 1), (0, 0)):
            self.assert_unchanged(game, InvalidPlace, place, game.pick, side, place)
        for side, place in ((0, 1), (1, 0), (0, 2)):
            self.assert_unchanged(game, GameOver, 0, game.pick, side, place)

    def test_answers_while_none_waits(self):
        game = Game("aab", "ab", 2)
        for place in (0, 1, -1, 99):
            self.assert_unchanged(game, GameOver, 0, game.answer, place)
        self.assert_unchanged(game, GameOver, 0, game.good_answers)
        play(game, [("pick", 0, 0), ("answer", 0)])
        for place in (0, 1, -1, 99):
            self.assert_unchanged(game, GameOver, 0, game.answer, place)
        self.assert_raises_exactly(GameOver, 0, game.good_answers)

    def test_errors_of_answers(self):
        game = play(Game("abab", "aabab", 3), [("pick", 0, 1), ("answer", 2), ("pick", 1, 4)])
        for place in (-1, 4, 5, -4, 100, 1):
            self.assert_unchanged(game, InvalidPlace, place, game.answer, place)
        for place in (0, 2):
            self.assert_unchanged(game, InvalidAnswer, place, game.answer, place)
        game.answer(3)
        game.pick(0, 0)
        for place in (-1, 2, 4, 5):
            self.assert_unchanged(game, InvalidPlace, place, game.answer, place)
        # Here the same letter stands, but behind another pair.
        self.assert_unchanged(game, InvalidAnswer, 3, game.answer, 3)
        self.assertEqual(game.good_answers(), [0, 1])

    def test_a_waiting_pick_takes_its_place_in_its_own_row_alone(self):
        game = play(Game("ab", "ab", 2), [("pick", 0, 0)])
        game.answer(0)
        self.assertEqual(game.parts, [("", ""), ("b", "b")])

    def test_nothing_to_undo(self):
        for made in BOTH:
            game = made("aab", "ab", 2)
            self.assert_unchanged(game, NothingToUndo, 0, game.undo)
            game.pick(0, 0)
            game.undo()
            self.assert_unchanged(game, NothingToUndo, 0, game.undo)


class UndoTest(GameCase):

    def test_behind_it_all_is_told_as_before(self):
        for row, other, picks in drawn_games(108, 100):
            game, plain, drawn = Game(row, other, picks), PlainGame(row, other, picks), Random(109)
            told = [told_of(game)]
            for _ in range(25):
                self.assert_drawn_calls(game, plain, drawn, 1)
                if len(game) < len(told):
                    told = told[:len(game) + 1]
                else:
                    told.append(told_of(game))
                self.assertEqual(told_of(game), told[-1])
            story = game.story()
            while len(game) > 0:
                self.assertIsNone(game.undo())
                told.pop()
                self.assertEqual(told_of(game), told[-1])
            self.assertEqual(told_of(game), told_of(Game(row, other, picks)))
            self.assertEqual(play(game, story).story(), story)

    def test_the_places_are_free_again(self):
        game = play(Game("ab", "ab", 1), [("pick", 0, 0), ("answer", 0)])
        game.undo()
        self.assertEqual([game.picks_left, game.good_answers()], [0, [0]])
        game.undo()
        self.assertEqual([game.picks_left, game.story()], [1, []])
        play(game, [("pick", 1, 0), ("answer", 0)])
        self.assertEqual(game.story(), [("pick", 1, 0), ("answer", 0)])

    def test_calls_with_errors_are_not_taken_back(self):
        game = play(Game("ab", "ab", 2), [("pick", 0, 0)])
        self.assert_raises_exactly(InvalidAnswer, 1, game.answer, 1)
        game.undo()
        self.assertEqual(len(game), 0)


class EqualityTest(CheckingCase):

    def assert_equal_games(self, one, two, told):
        """Either way about, and with the sign for unequal."""
        self.assertIs(one == two, told)
        self.assertIs(two == one, told)
        self.assertIs(one != two, not told)
        self.assertIs(two != one, not told)

    def test_rows_picks_and_stories(self):
        for made in BOTH:
            game = made("aab", "ab", 2)
            self.assert_equal_games(game, game, True)
            self.assert_equal_games(game, made("aab", "ab", 2), True)
            for other in (made("aab", "ab", 1), made("aab", "ab", 3), made("ab", "aab", 2), made("aab", "b", 2),
                          made("aa", "ab", 2), made("aab", "aab", 2), made("", "", 2)):
                self.assert_equal_games(game, other, False)

    def test_stories(self):
        one, two = Game("aab", "aab", 2), Game("aab", "aab", 2)
        one.pick(0, 2)
        self.assert_equal_games(one, two, False)
        two.pick(1, 2)
        self.assert_equal_games(one, two, False)
        two.undo()
        two.pick(0, 2)
        self.assert_equal_games(one, two, True)
        one.answer(2)
        self.assert_equal_games(one, two, False)
        two.answer(2)
        self.assert_equal_games(one, two, True)
        two.undo()
        self.assert_equal_games(one, two, False)

    def test_the_same_pairs_by_other_calls(self):
        one = play(Game("ab", "ab", 2), [("pick", 0, 0), ("answer", 0), ("pick", 0, 1), ("answer", 1)])
        for story in ([("pick", 1, 0), ("answer", 0), ("pick", 0, 1), ("answer", 1)],
                      [("pick", 0, 1), ("answer", 1), ("pick", 0, 0), ("answer", 0)]):
            two = play(Game("ab", "ab", 2), story)
            self.assertEqual(one.parts, two.parts)
            self.assert_equal_games(one, two, False)

    def test_both_are_eager_or_both_are_not(self):
        for row, other, picks in (("a", "b", 1), ("", "", 0), ("aab", "aab", 2)):
            self.assert_equal_games(Game(row, other, picks), EagerGame(row, other, picks), False)
        eager, game = EagerGame("ab", "ab", 2), Game("ab", "ab", 2)
        eager.pick(0, 1)
        play(game, [("pick", 0, 1), ("answer", 1)])
        self.assertEqual(eager.story(), game.story())
        self.assert_equal_games(eager, game, False)
        other = EagerGame("ab", "ab", 2)
        other.pick(0, 1)
        self.assert_equal_games(eager, other, True)

    def test_calls_that_raised_errors_do_not_count(self):
        one, two = Game("ab", "ab", 2), Game("ab", "ab", 2)
        self.assert_raises_exactly(InvalidPlace, 5, one.pick, 0, 5)
        self.assert_raises_exactly(GameOver, 0, one.answer, 0)
        self.assert_equal_games(one, two, True)

    def test_anything_else(self):
        class Agreeable:
            def __eq__(self, other):
                return True
            __hash__ = None

        for game in (Game("", "", 0), Game("ab", "ba", 2), EagerGame("ab", "ba", 2)):
            for other in (0, 1, True, None, "", "ab", [], (), [("ab", "ba")], ("ab", "ba", 2), {}, object(),
                          Game, EagerGame, ("any",), game.parts, game.story(), len(game)):
                self.assert_equal_games(game, other, False)
            self.assertIs(game == Agreeable(), False)
            self.assertIs(game != Agreeable(), True)


if __name__ == "__main__":
    unittest.main()
