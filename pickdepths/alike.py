"""Rows that are alike to a depth, the least depth that parts them, and the game of picks."""

from pickdepths.checks import check_not_negative, check_rows
from pickdepths.errors import InvalidNumber, InvalidPlace
from pickdepths.kinds import Kinds


def are_alike(row, other_row, depth):
    """Tell whether two rows are alike to a depth."""
    check_rows_and_depth(row, other_row, depth)
    return Kinds().alike(row, other_row, depth)


def parting_depth(row, other_row):
    """Return the least depth to which two rows are not alike, None if they are equal."""
    check_rows(row, other_row)
    return depth_between(Kinds(), row, other_row)


def classes(rows, depth):
    """Return the lists of the indices of rows that are alike to a depth."""
    check_not_negative(depth)
    kinds = Kinds()
    first_ones = []
    indices = {}
    for index, row in enumerate(rows):
        first = first_alike(kinds, rows, first_ones, row, depth)
        if first is None:
            first_ones.append(index)
            indices[index] = [index]
        else:
            indices[first].append(index)
    return list(indices.values())


def answers(row, other_row, depth, place):
    """Return the places of the other row that are good answers to a pick in the first row."""
    check_rows_and_depth(row, other_row, depth)
    if depth == 0:
        raise InvalidNumber(depth)
    if not 0 <= place < len(row):
        raise InvalidPlace(place)
    return good_answers_to(Kinds(), row, place, other_row, depth)


def winning_picks(row, other_row, depth):
    """Return the tuples (side, place) of the picks that have no good answer."""
    check_rows_and_depth(row, other_row, depth)
    if depth == 0:
        return []
    return picks_without_answer(Kinds(), row, other_row, depth)


def depth_between(kinds, row, other_row):
    """Return the least depth to which two rows are not alike, None if they are equal."""
    if row == other_row:
        return None
    depth = 0
    # This ends: as many picks as the longer row has letters tell it from any other one.
    while kinds.of_row(row, depth) == kinds.of_row(other_row, depth):
        depth += 1
    return depth


def first_alike(kinds, rows, indices, row, depth):
    """Return the first one of the indices of rows at which a row stands that is alike, or None."""
    for index in indices:
        if kinds.alike(rows[index], row, depth):
            return index
    return None


def good_answers_to(kinds, row, place, other_row, depth):
    """Return the places of the other row after which the answering player can last."""
    left = list(range(len(other_row)))
    lesser_depth = 0
    # All places are told apart at once to lesser depths, until few are left to be looked at.
    while len(left) > 1 and lesser_depth < depth - 1:
        wanted = kinds.places(row, lesser_depth)[place]
        marks = kinds.places(other_row, lesser_depth)
        left = [at for at in left if marks[at] == wanted]
        lesser_depth += 1
    good = []
    for other_place in left:
        if is_good_answer(kinds, row, place, other_row, other_place, depth):
            good.append(other_place)
    return good


def is_good_answer(kinds, row, place, other_row, other_place, depth):
    """Tell whether the answering player can last after a pick and an answer."""
    if row[place] != other_row[other_place]:
        return False
    # One of the picks is this one, so what stands ahead and behind has to last for one less.
    if not kinds.alike(row[:place], other_row[:other_place], depth - 1):
        return False
    return kinds.alike(row[place + 1:], other_row[other_place + 1:], depth - 1)


def picks_without_answer(kinds, row, other_row, depth):
    """Return the tuples (side, place) of the picks in two rows that have no good answer."""
    picks = []
    for side, own, other in ((0, row, other_row), (1, other_row, row)):
        for place in range(len(own)):
            if not good_answers_to(kinds, own, place, other, depth):
                picks.append((side, place))
    return picks


def check_rows_and_depth(row, other_row, depth):
    """Raise an error for the first of two rows and a depth that is not as it must be."""
    check_rows(row, other_row)
    check_not_negative(depth)
