"""A plain book-keeping of picks and answers, by the document's words, to hold games against."""

from pickdepths.errors import GameOver, InvalidAnswer, InvalidNumber, InvalidPlace, NothingToUndo
from tests import reference


class PlainGame:

    def __init__(self, row, other_row, picks, eager=False):
        self.rows = (row, other_row)
        self.picks = picks
        self.eager = eager
        self.calls = []

    def waiting(self):
        return self.calls[-1] if self.calls and self.calls[-1][0] == "pick" else None

    def pairs(self):
        """The places of answered picks, ascending."""
        pairs, side, place = [], None, None
        for call in self.calls:
            if call[0] == "pick":
                side, place = call[1], call[2]
            else:
                pairs.append((place, call[1]) if side == 0 else (call[1], place))
        return sorted(pairs)

    def picks_left(self):
        return self.picks - sum(1 for call in self.calls if call[0] == "pick")

    def parts(self, further=()):
        """The parts between answered picks, and further pairs of places."""
        parts, starts = [], (0, 0)
        for ends in sorted(self.pairs() + list(further)) + [(len(self.rows[0]), len(self.rows[1]))]:
            parts.append(tuple(self.rows[side][starts[side]:ends[side]] for side in (0, 1)))
            starts = (ends[0] + 1, ends[1] + 1)
        return parts

    def all_alike(self, further=()):
        return all(
            reference.kind(part, self.picks_left()) == reference.kind(other, self.picks_left())
            for part, other in self.parts(further))

    def taken(self, side):
        """The places of a row that were picked or answered with."""
        places = [pair[side] for pair in self.pairs()]
        waiting = self.waiting()
        return places + [waiting[2]] if waiting and waiting[1] == side else places

    def wrong_place(self, side, place):
        return place not in range(len(self.rows[side])) or place in self.taken(side)

    def pair_with(self, place):
        """The waiting pick and a place to answer it with."""
        _, side, picked = self.waiting()
        return (picked, place) if side == 0 else (place, picked)

    def pick_error(self, side, place):
        """The class and the value of the error of a pick, None if there is none."""
        if side not in (0, 1):
            return InvalidNumber, side
        if self.wrong_place(side, place):
            return InvalidPlace, place
        if self.picks_left() == 0 or self.waiting():
            return GameOver, 0
        return None

    def answer_error(self, place):
        if not self.waiting():
            return GameOver, 0
        if self.wrong_place(1 - self.waiting()[1], place):
            return InvalidPlace, place
        pair = self.pair_with(place)
        if self.rows[0][pair[0]] != self.rows[1][pair[1]]:
            return InvalidAnswer, place
        if not reference.same_sequence(self.pairs() + [pair]):
            return InvalidAnswer, place
        return None

    def undo_error(self):
        return None if self.calls else (NothingToUndo, 0)

    def possible(self):
        other = self.rows[1 - self.waiting()[1]]
        return [place for place in range(len(other)) if self.answer_error(place) is None]

    def good_answers(self):
        return [place for place in self.possible() if self.all_alike([self.pair_with(place)])]

    def can_last(self):
        return self.good_answers() != [] if self.waiting() else self.all_alike()

    def pick(self, side, place):
        self.calls.append(("pick", side, place))
        if self.eager:
            for answer in (self.good_answers() + self.possible())[:1]:
                self.calls.append(("answer", answer))

    def answer(self, place):
        self.calls.append(("answer", place))

    def undo(self):
        answered = not self.waiting()
        self.calls.pop()
        if self.eager and answered:
            self.calls.pop()
