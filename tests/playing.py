"""Games that are played by drawn calls, and held against the book-keeping."""

from random import Random

from pickdepths.errors import GameOver
from tests.checking import CheckingCase
from tests.reference import drawn_row


def told_of(game):
    """All that a game tells of itself."""
    try:
        good = game.good_answers()
    except GameOver as error:
        good = ("over", error.value)
    return [game.parts, game.picks_left, game.can_last, game.story(), len(game), good]


def told_by_words(plain):
    """The same by the document's words."""
    good = plain.good_answers() if plain.waiting() else ("over", 0)
    return [plain.parts(), plain.picks_left(), plain.can_last(), plain.calls, len(plain.calls), good]


def drawn_games(seed, many, letters="ab", longest=6, picks=4):
    """Rows and a number of picks; the other row is often a little changed, or the same."""
    drawn = Random(seed)
    games = []
    for _ in range(many):
        row = drawn_row(drawn, letters, longest)
        other = drawn.choice([row, row + drawn.choice(letters), row[1:], drawn_row(drawn, letters, longest)])
        games.append((row, other, drawn.randint(0, picks)))
    return games


def play(game, calls):
    """Make the calls of a story."""
    for word, *rest in calls:
        getattr(game, word)(*rest)
    return game


class GameCase(CheckingCase):

    def assert_told(self, game, plain):
        told = told_of(game)
        self.assertEqual(told, told_by_words(plain))
        self.assertIs(type(game.can_last), bool)
        self.assertIs(type(game.picks_left), int)
        for tuples in (told[0], told[3]):
            self.assertIs(type(tuples), list)
            for item in tuples:
                self.assertIs(type(item), tuple)

    def assert_call(self, game, plain, word, rest):
        """A call raises the error that it has to, and changes nothing then, or does what it has to."""
        error = getattr(plain, word + "_error")(*rest)
        if error is None:
            getattr(plain, word)(*rest)
            self.assertIsNone(getattr(game, word)(*rest))
        else:
            self.assert_raises_exactly(*error, getattr(game, word), *rest)
        self.assert_told(game, plain)
        return error is None

    def assert_drawn_calls(self, game, plain, drawn, many):
        """Many calls, right and wrong ones; returns how many of each were made."""
        longest = max(len(plain.rows[0]), len(plain.rows[1]))
        made = {}
        for _ in range(many):
            word = drawn.choice(["pick"] * 4 + ["answer"] * 5 + ["undo"] * 2)
            place = drawn.randint(-1, longest) if drawn.random() < 0.8 else drawn.choice([-100, 100, -2])
            side = drawn.choice([0, 1] * 6 + [-1, 2, 100, -100])
            if word == "answer" and plain.waiting() and plain.possible() and drawn.random() < 0.6:
                place = drawn.choice(plain.possible())
            rest = {"pick": (side, place), "answer": (place,), "undo": ()}[word]
            right = self.assert_call(game, plain, word, rest)
            made[(word, right)] = made.get((word, right), 0) + 1
        return made
