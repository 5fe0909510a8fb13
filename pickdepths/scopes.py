"""Scopes: the kinds of all rows of few letters to a small depth, and their least rows."""

from pickdepths.errors import InvalidRow, InvalidScope
from pickdepths.kinds import Kinds

LETTERS = "abcd"

# The greatest depth of a scope, for each number of letters.
DEPTHS = {1: 4, 2: 2, 3: 1, 4: 1}


def kind_count(many, depth):
    """Return the number of the kinds of a scope."""
    return len(least_rows(many, depth))


def least_rows(many, depth):
    """Return the ascending list of the least rows of all kinds of a scope."""
    check_scope(many, depth)
    return list(rows_by_kind(Kinds(), many, depth).values())


def least_alike(row, many, depth):
    """Return the least row of the letters of a scope that is alike to a row to the depth."""
    check_scope(many, depth)
    check_letters(row, many)
    kinds = Kinds()
    return rows_by_kind(kinds, many, depth)[kinds.of_row(row, depth)]


def rows_by_kind(kinds, many, depth):
    """Return the dict of the kinds of a scope with their least rows, ascending."""
    first = kinds.empty(depth)
    rows = {first: ""}
    waiting = [first]
    done = 0
    # A least row without its last letter is a least row too, so it has been found by then.
    while done < len(waiting):
        kind = waiting[done]
        done += 1
        for letter in letters_of(many):
            longer = kinds.added_behind(kind, letter)
            if longer not in rows:
                rows[longer] = rows[kind] + letter
                waiting.append(longer)
    return rows


def letters_of(many):
    """Return the first letters of the alphabet, so many of them."""
    return LETTERS[:many]


def check_scope(many, depth):
    """Raise an error for a number of letters and a depth that are no scope."""
    if not 0 <= depth <= DEPTHS.get(many, -1):
        raise InvalidScope((many, depth))


def check_letters(row, many):
    """Raise an error for the first sign of a row that is none of the letters of a scope."""
    letters = letters_of(many)
    for index, sign in enumerate(row):
        if sign not in letters:
            raise InvalidRow(index)
