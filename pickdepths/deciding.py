"""Questions decided for all rows of few letters at once."""

from pickdepths.errors import InvalidScope
from pickdepths.kinds import Kinds
from pickdepths.questions import depth_of, letters_in
from pickdepths.scopes import check_scope, letters_of, rows_by_kind
from pickdepths.tables import AskedKinds, table_of


def least_row(question, many):
    """Return the least row that lets a question, None if there is none."""
    for row, told in rows_told([question], many):
        if told[0]:
            return row
    return None


def are_equal(question, other_question, many):
    """Tell whether all rows let both or none of two questions."""
    return parting_row(question, other_question, many) is None


def parting_row(question, other_question, many):
    """Return the least row that lets just one of two questions, None if there is none."""
    for row, told in rows_told([question, other_question], many):
        if told[0] != told[1]:
            return row
    return None


def follows(question, other_question, many):
    """Tell whether every row that lets the first question lets the other one."""
    for _, told in rows_told([question, other_question], many):
        if told[0] and not told[1]:
            return False
    return True


def rows_told(questions, many):
    """Return the ascending tuples (least row of a kind, what it lets) of the scope of questions.

    What it lets is a list with a 1 or 0 for each question. All rows of a kind let the same ones.
    """
    depth = scope_depth(questions, many)
    kinds = Kinds()
    rows = rows_by_kind(kinds, many, depth)
    asked = AskedKinds(kinds)
    tables = [table_of(question, asked) for question in questions]
    told = []
    for kind, row in rows.items():
        told.append((row, [table[kind] for table in tables]))
    return told


def scope_depth(questions, many):
    """Return the greatest depth of questions; raise an error if they lie in no scope."""
    # This checks the questions, too, one by one.
    depth = max([depth_of(question) for question in questions])
    check_scope(many, depth)
    letters = letters_of(many)
    for question in questions:
        for letter in letters_in(question):
            if letter not in letters:
                raise InvalidScope((many, depth))
    return depth
