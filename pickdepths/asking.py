"""What rows let, the places at which questions are met, and questions that part two rows."""

from pickdepths.alike import depth_between, picks_without_answer
from pickdepths.checks import check_row, check_rows
from pickdepths.errors import InvalidQuestion
from pickdepths.kinds import Kinds
from pickdepths.questions import check_question
from pickdepths.tables import Stretches, holds, table_of


def lets(row, question):
    """Tell whether a row lets a question."""
    check_row(row)
    check_question(question)
    return row_lets(row, question)


def places_of(row, question):
    """Return the places of a row at which a question "some" is met."""
    check_row(row)
    check_question(question)
    if question[0] != "some":
        raise InvalidQuestion(question)
    stretches = Stretches(row)
    ahead = table_of(question[1], stretches)
    behind = table_of(question[3], stretches)
    places = []
    for place, letter in enumerate(row):
        if letter == question[2] and holds(ahead, 0, place) and holds(behind, place + 1, len(row)):
            places.append(place)
    return places


def parting_question(row, other_row):
    """Return a question of the least depth that a row lets and the other one does not."""
    check_rows(row, other_row)
    if row == other_row:
        return None
    return question_between(Kinds(), row, other_row)


def row_lets(row, question):
    """Tell whether a row lets a question, without any check."""
    return holds(table_of(question, Stretches(row)), 0, len(row))


def question_between(kinds, row, other_row):
    """Return a question of the least depth that a row lets and another, unlike one does not."""
    depth = depth_between(kinds, row, other_row)
    side, place = picks_without_answer(kinds, row, other_row, depth)[0]
    if side == 0:
        return question_at(kinds, row, place, other_row)
    return ("not", question_at(kinds, other_row, place, row))


def question_at(kinds, row, place, other_row):
    """Return a question that is met at a place of a row, but not in a row without answer to it."""
    ahead, behind = row[:place], row[place + 1:]
    asked_ahead, asked_behind = ("any",), ("any",)
    for other_place, letter in enumerate(other_row):
        other_ahead, other_behind = other_row[:other_place], other_row[other_place + 1:]
        met = row_lets(other_ahead, asked_ahead) and row_lets(other_behind, asked_behind)
        # Where the question is not met as it is so far, it needs nothing more.
        if letter == row[place] and met:
            if parts_no_later(kinds, ahead, other_ahead, behind, other_behind):
                asked_ahead = joined(asked_ahead, question_between(kinds, ahead, other_ahead))
            else:
                asked_behind = joined(asked_behind, question_between(kinds, behind, other_behind))
    return ("some", asked_ahead, row[place], asked_behind)


def parts_no_later(kinds, ahead, other_ahead, behind, other_behind):
    """Tell whether what stands ahead parts, to no greater depth than what stands behind."""
    depth_ahead = depth_between(kinds, ahead, other_ahead)
    depth_behind = depth_between(kinds, behind, other_behind)
    if depth_ahead is None:
        return False
    return depth_behind is None or depth_ahead <= depth_behind


def joined(question, other_question):
    """Return a question that asks for both; what asks for nothing is left out."""
    if question == ("any",):
        return other_question
    return ("both", question, other_question)
