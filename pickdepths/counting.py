"""How many rows of a length let a question, these rows by index, and the lengths there are."""

from pickdepths.checks import check_not_negative
from pickdepths.deciding import scope_depth
from pickdepths.errors import InvalidNumber, NotLet
from pickdepths.kinds import Kinds
from pickdepths.scopes import check_letters, letters_of, rows_by_kind
from pickdepths.tables import AskedKinds, table_of


def count_rows(question, many, length):
    """Return how many rows of a length let a question."""
    steps, told = steps_and_told(question, many)
    check_not_negative(length)
    return ways_by_length(steps, told, length)[length][0]


def nth_row(question, many, length, index):
    """Return the row with an index, by the alphabet, among those of a length that let a question."""
    steps, told = steps_and_told(question, many)
    check_not_negative(length)
    ways = ways_by_length(steps, told, length)
    if not 0 <= index < ways[length][0]:
        raise InvalidNumber(index)
    return row_with_index(steps, ways, letters_of(many), index)


def row_index(question, many, row):
    """Return the index of a row among the rows of its length that let a question."""
    steps, told = steps_and_told(question, many)
    check_letters(row, many)
    choices = [letters_of(many).index(letter) for letter in row]
    if not told[kind_behind(steps, choices)]:
        raise NotLet(row)
    return index_of_choices(steps, ways_by_length(steps, told, len(row)), choices)


def has_length(question, many, length):
    """Tell whether some row of a length lets a question."""
    steps, told = steps_and_told(question, many)
    check_not_negative(length)
    return is_let_at(kinds_by_length(steps), told, length)


def lengths_to(question, many, most):
    """Return the ascending list of the lengths up to the most of which some row lets a question."""
    steps, told = steps_and_told(question, many)
    check_not_negative(most)
    by_length = kinds_by_length(steps)
    return [length for length in range(most + 1) if is_let_at(by_length, told, length)]


def steps_and_told(question, many):
    """Return two lists with an item for each kind of the scope of a question.

    The first one has the indices of the kinds to which the letters lead, the other one a 1 or 0 for
    what the question lets. The empty row is of the kind with the index 0.
    """
    depth = scope_depth([question], many)
    kinds = Kinds()
    indices = {kind: index for index, kind in enumerate(rows_by_kind(kinds, many, depth))}
    table = table_of(question, AskedKinds(kinds))
    letters = letters_of(many)
    steps = []
    for kind in indices:
        steps.append([indices[kinds.added_behind(kind, letter)] for letter in letters])
    return steps, [table[kind] for kind in indices]


def ways_by_length(steps, told, length):
    """Return the lists, for 0 to so many letters, of the numbers of ways on from each kind.

    Each way adds so many letters, and ends with a row that lets the question.
    """
    ways = [told]
    for _ in range(length):
        last = ways[-1]
        ways.append([sum([last[kind] for kind in choices]) for choices in steps])
    return ways


def row_with_index(steps, ways, letters, index):
    """Return the row with an index among as many as there are ways from the empty row."""
    row = []
    kind = 0
    ahead = 0
    for shorter in reversed(ways[:-1]):
        choice = 0
        # All rows with a lesser letter here come first.
        while index >= ahead + shorter[steps[kind][choice]]:
            ahead += shorter[steps[kind][choice]]
            choice += 1
        row.append(letters[choice])
        kind = steps[kind][choice]
    return "".join(row)


def index_of_choices(steps, ways, choices):
    """Return the index of the row that the choices of letters make."""
    index = 0
    kind = 0
    for shorter, choice in zip(reversed(ways[:-1]), choices):
        index += sum([shorter[longer] for longer in steps[kind][:choice]])
        kind = steps[kind][choice]
    return index


def kind_behind(steps, choices):
    """Return the kind of the row that the choices of letters make."""
    kind = 0
    for choice in choices:
        kind = steps[kind][choice]
    return kind


def kinds_by_length(steps):
    """Return the lists of the kinds of the rows of each length, up to where they stay the same."""
    by_length = []
    kinds = [0]
    # This ends in each scope: none is deep enough to tell all great lengths apart.
    while len(by_length) == 0 or kinds != by_length[-1]:
        by_length.append(kinds)
        kinds = sorted({longer for kind in kinds for longer in steps[kind]})
    return by_length


def is_let_at(by_length, told, length):
    """Tell whether some row of a length lets the question."""
    kinds = by_length[min(length, len(by_length) - 1)]
    return any([told[kind] for kind in kinds])
