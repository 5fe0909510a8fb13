"""Games in which picks are answered at once, held against a plain book-keeping."""

import unittest
from random import Random

from pickdepths.alike import are_alike
from pickdepths.errors import GameOver, InvalidAnswer, InvalidPlace, NothingToUndo, PickError
from pickdepths.games import EagerGame, Game
from tests.checking import CheckingCase
from tests.plain_game import PlainGame
from tests.playing import GameCase, drawn_games, play, told_of

FORTY = "a" * 40
TURNS = "ab" * 20


class ExamplesTest(unittest.TestCase):

    def test_examples_of_the_document(self):
        eager = EagerGame("aaa", "aaaa", 2)
        self.assertEqual(
            [eager.can_last, eager.pick(1, 1), eager.story(), eager.parts, eager.can_last, eager.undo(),
             len(eager), Game("a", "b", 1) == EagerGame("a", "b", 1)],
            [True, None, [("pick", 1, 1), ("answer", 1)], [("a", "a"), ("a", "aa")], True, None, 0, False])


class EagerGameTest(GameCase):

    def test_it_is_a_subclass(self):
        self.assertTrue(issubclass(EagerGame, Game))
        self.assertIsNot(EagerGame, Game)
        self.assertIsInstance(EagerGame("a", "b", 1), Game)

    def test_drawn_games_against_the_book_keeping(self):
        drawn = Random(111)
        made = {}
        for row, other, picks in drawn_games(112, 400) + drawn_games(113, 150, "abc", 8, 3):
            game, plain = EagerGame(row, other, picks), PlainGame(row, other, picks, eager=True)
            for call, count in self.assert_drawn_calls(game, plain, drawn, 30).items():
                made[call] = made.get(call, 0) + count
        for call in (("pick", True), ("pick", False), ("undo", True), ("undo", False), ("answer", False)):
            self.assertGreater(made[call], 200)
        # No pick waits that could be answered.
        self.assertNotIn(("answer", True), made)

    def test_the_first_good_answer(self):
        game = EagerGame("aaa", "aaaa", 2)
        game.pick(0, 1)
        self.assertEqual(game.story(), [("pick", 0, 1), ("answer", 1)])
        game = EagerGame(FORTY, FORTY, 5)
        game.pick(1, 20)
        self.assertEqual(game.story(), [("pick", 1, 20), ("answer", 15)])
        self.assertIs(game.can_last, True)

    def test_otherwise_the_first_place_that_raises_no_error(self):
        game = EagerGame("aab", "ab", 2)
        game.pick(0, 1)
        self.assertEqual([game.story(), game.can_last], [[("pick", 0, 1), ("answer", 0)], False])
        game = EagerGame("ba", "aba", 2)
        game.pick(0, 1)
        self.assertEqual(game.story()[1], ("answer", 0))
        # No answer is good here, as the first part is lost; the first a has been taken.
        game = EagerGame("baaa", "aaa", 3)
        game.pick(1, 0)
        self.assertEqual(game.story(), [("pick", 1, 0), ("answer", 1)])
        game.pick(0, 2)
        self.assertEqual([game.story()[2:], game.can_last], [[("pick", 0, 2), ("answer", 1)], False])

    def test_without_such_a_place_the_pick_waits(self):
        game = EagerGame("ab", "aa", 3)
        self.assertIsNone(game.pick(0, 1))
        self.assertEqual([game.story(), len(game), game.picks_left], [[("pick", 0, 1)], 1, 2])
        self.assertEqual([game.good_answers(), game.can_last, game.parts], [[], False, [("ab", "aa")]])
        self.assert_raises_exactly(InvalidAnswer, 0, game.answer, 0)
        self.assert_raises_exactly(InvalidPlace, 2, game.answer, 2)
        self.assert_raises_exactly(GameOver, 0, game.pick, 1, 0)
        self.assertEqual(game.story(), [("pick", 0, 1)])
        game.undo()
        self.assertEqual([game.story(), game.picks_left], [[], 3])
        # The letter stands only on the other side of an answered pick.
        game = EagerGame("abb", "bab", 2)
        game.pick(0, 0)
        game.pick(1, 0)
        self.assertEqual(game.story(), [("pick", 0, 0), ("answer", 1), ("pick", 1, 0)])

    def test_undo_takes_back_both(self):
        game = EagerGame("abab", "abab", 3)
        game.pick(0, 1)
        told = told_of(game)
        game.pick(1, 2)
        self.assertEqual(len(game), 4)
        self.assertIsNone(game.undo())
        self.assertEqual(told_of(game), told)
        self.assertIsNone(game.undo())
        self.assertEqual(told_of(game), told_of(EagerGame("abab", "abab", 3)))
        self.assert_raises_exactly(NothingToUndo, 0, game.undo)

    def test_undo_of_a_pick_that_waits_takes_back_it_alone(self):
        game = EagerGame("abb", "aba", 3)
        game.pick(0, 0)
        told = told_of(game)
        game.pick(0, 1)
        game.pick(0, 2)
        self.assertEqual(game.story(), [("pick", 0, 0), ("answer", 0), ("pick", 0, 1), ("answer", 1),
                                        ("pick", 0, 2)])
        game.undo()
        self.assertEqual(len(game), 4)
        game.undo()
        self.assertEqual(told_of(game), told)

    def test_who_can_last_does(self):
        drawn = Random(114)
        for row, other, picks in (("a" * 31, "a" * 40, 5), (TURNS, TURNS, 6), ("ab" * 15, "ab" * 16, 4),
                                  (FORTY[1:], FORTY, 5), ("abc" * 7, "abc" * 9, 3)):
            self.assertIs(are_alike(row, other, picks), True)
            for _ in range(20):
                game = EagerGame(row, other, picks)
                while game.picks_left > 0:
                    side = drawn.randint(0, 1)
                    try:
                        game.pick(side, drawn.randrange(len((row, other)[side])))
                    except InvalidPlace:
                        continue
                    self.assertIs(game.can_last, True)
                self.assertEqual(len(game), 2 * picks)

    def test_a_thousand_calls(self):
        drawn = Random(115)
        for row, other, picks in ((FORTY, FORTY[1:], 6), (TURNS, TURNS[::-1], 6)):
            game = EagerGame(row, other, picks)
            told = {(): told_of(game)}
            for _ in range(1000):
                try:
                    if drawn.random() < 0.6:
                        game.pick(drawn.randint(0, 1), drawn.randint(0, 39))
                    else:
                        game.undo()
                except PickError:
                    pass
                # The same story tells the same, by whatever calls it was come to.
                self.assertEqual(told.setdefault(tuple(game.story()), told_of(game)), told_of(game))
            self.assertGreater(len(told), 50)


class SameAsGameTest(CheckingCase):

    def test_the_same_story_tells_the_same(self):
        drawn = Random(116)
        for row, other, picks in drawn_games(117, 60):
            eager = EagerGame(row, other, picks)
            for _ in range(picks):
                try:
                    eager.pick(drawn.randint(0, 1), drawn.randint(0, 5))
                except PickError:
                    pass
            game = play(Game(row, other, picks), eager.story())
            self.assertEqual(told_of(game), told_of(eager))
            self.assertIs(game == eager, False)


if __name__ == "__main__":
    unittest.main()
