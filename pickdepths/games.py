"""The game of picks, with all answers given by a player, or at once."""

from pickdepths.checks import check_not_negative, check_rows
from pickdepths.errors import GameOver, InvalidAnswer, InvalidNumber, InvalidPlace, NothingToUndo
from pickdepths.kinds import Kinds
from pickdepths.moves import (
    can_be_answered, good_answers_waiting, parts_between, picks_made, possible_answers, taken_places,
    waiting_pick)


class Game:
    """A game of picks on two rows."""

    EAGER = False

    def __init__(self, row, other_row, picks):
        check_rows(row, other_row)
        check_not_negative(picks)
        self._rows = (row, other_row)
        self._picks = picks
        self._calls = []
        self._kinds = Kinds()
        # Whether the answering player can last, at first and behind each of the calls. It is worked
        # out with the calls, as a property that is read may not give numbers to further kinds.
        self._lasting = [self._lasts()]

    def pick(self, side, place):
        """Pick a place of a row, side 0 for the first row, 1 for the other one."""
        if side not in (0, 1):
            raise InvalidNumber(side)
        self._check_free(side, place)
        if self.picks_left == 0 or waiting_pick(self._calls) is not None:
            raise GameOver(0)
        self._keep(("pick", side, place))

    def answer(self, place):
        """Answer the waiting pick with a place of the other row."""
        side, _ = self._waiting()
        self._check_free(1 - side, place)
        if place not in possible_answers(self._rows, self._calls):
            raise InvalidAnswer(place)
        self._keep(("answer", place))

    def undo(self):
        """Take back the last pick or answer."""
        if len(self._calls) == 0:
            raise NothingToUndo(0)
        self._calls.pop()
        self._lasting.pop()

    def good_answers(self):
        """Return the places with which the waiting pick can be answered so that one can last."""
        self._waiting()
        return good_answers_waiting(self._kinds, self._rows, self._calls, self.picks_left)

    @property
    def picks_left(self):
        """How many picks may still be made, one that waits not counted."""
        return self._picks - picks_made(self._calls)

    @property
    def parts(self):
        """The parts of both rows between the places of answered picks, ahead of and behind them."""
        return parts_between(self._rows, self._calls)

    @property
    def can_last(self):
        """Whether the answering player can answer all picks that may still be made."""
        return self._lasting[-1]

    def story(self):
        """Return the calls that are not taken back."""
        return list(self._calls)

    def __len__(self):
        return len(self._calls)

    def __eq__(self, other):
        if not isinstance(other, Game):
            return False
        if self._rows != other._rows or self._picks != other._picks:
            return False
        return self._calls == other._calls and self.EAGER == other.EAGER

    def _waiting(self):
        """Return the tuple (side, place) of the waiting pick; raise an error if there is none."""
        waiting = waiting_pick(self._calls)
        if waiting is None:
            raise GameOver(0)
        return waiting

    def _check_free(self, side, place):
        """Raise an error for a place that a row does not have, or that is taken."""
        if not 0 <= place < len(self._rows[side]) or place in taken_places(self._calls, side):
            raise InvalidPlace(place)

    def _keep(self, call):
        """Put a call behind those of the story."""
        self._calls.append(call)
        self._lasting.append(self._lasts())

    def _lasts(self):
        """Tell whether the answering player can last from here on."""
        return can_be_answered(self._kinds, self._rows, self._calls, self.picks_left)


class EagerGame(Game):
    """A game in which picks are answered at once, where they can be answered."""

    EAGER = True

    def __init__(self, row, other_row, picks):
        Game.__init__(self, row, other_row, picks)

    def pick(self, side, place):
        """Pick a place of a row, and answer with the first good answer, or else the first one."""
        super().pick(side, place)
        places = self.good_answers() or possible_answers(self._rows, self._calls)
        if places:
            self.answer(places[0])

    def answer(self, place):
        """Answer the waiting pick."""
        super().answer(place)

    def undo(self):
        """Take back the last pick with the answer that was given at once, if there was one."""
        answered = len(self._calls) > 0 and waiting_pick(self._calls) is None
        super().undo()
        # A pick waits only if nothing can answer it, so each answer was given at once.
        if answered:
            super().undo()
