"""Rows that are repeated, also very many times, one within another."""

from pickdepths.checks import check_not_negative, check_row
from pickdepths.errors import InvalidBlocks, InvalidNumber
from pickdepths.kinds import Kinds
from pickdepths.questions import depth_of
from pickdepths.tables import AskedKinds, table_of

# How deep lists of blocks may lie within one another.
MOST_LISTS = 2


def far_alike(blocks, other_blocks, depth):
    """Tell whether two far rows are alike to a depth."""
    check_blocks(blocks)
    check_blocks(other_blocks)
    check_not_negative(depth)
    kinds = Kinds()
    times = enough_times(depth)
    kind = kinds.of_row(written_out(blocks, times), depth)
    return kind == kinds.of_row(written_out(other_blocks, times), depth)


def far_lets(blocks, question):
    """Tell whether a far row lets a question."""
    check_blocks(blocks)
    # This checks the question, too.
    depth = depth_of(question)
    kinds = Kinds()
    kind = kinds.of_row(written_out(blocks, enough_times(depth)), depth)
    return table_of(question, AskedKinds(kinds))[kind] == 1


def settled(row, depth):
    """Return the least number of times from which on all repeats of a row are alike to a depth."""
    check_row(row)
    check_not_negative(depth)
    kinds = Kinds()
    times = 0
    # Once one more time changes nothing, no number of further times does.
    while kinds.of_row(row * times, depth) != kinds.of_row(row * (times + 1), depth):
        times += 1
    return times


def enough_times(depth):
    """Return a number of times from which on all repeats of any row are alike to a depth."""
    return (1 << depth) - 1


def written_out(blocks, most):
    """Return the row that blocks stand for, with no part repeated more times than the most."""
    rows = []
    for part, times in blocks:
        row = written_out(part, most) if isinstance(part, list) else part
        rows.append(row * min(times, most))
    return "".join(rows)


def check_blocks(blocks):
    """Raise an error for lists of blocks that lie too deep, then for the first negative times."""
    depth = depth_of_lists(blocks)
    if depth > MOST_LISTS:
        raise InvalidBlocks(depth)
    check_times(blocks)


def depth_of_lists(blocks):
    """Return how deep lists of blocks lie within one another, this list counted."""
    deepest = 1
    waiting = [(blocks, 1)]
    while waiting:
        inner_blocks, depth = waiting.pop()
        deepest = max(deepest, depth)
        for part, _ in inner_blocks:
            if isinstance(part, list):
                waiting.append((part, depth + 1))
    return deepest


def check_times(blocks):
    """Raise an error for the first negative times, each block ahead of those in its part."""
    for part, times in blocks:
        if times < 0:
            raise InvalidNumber(times)
        if isinstance(part, list):
            check_times(part)
