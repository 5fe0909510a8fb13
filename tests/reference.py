"""What the document says, word by word and without any shortcut, to hold the program against."""

from functools import lru_cache
from itertools import product

ANY = ("any",)


def some(ahead, letter, behind):
    return ("some", ahead, letter, behind)


ONE_A = some(ANY, "a", ANY)
ONE_B = some(ANY, "b", ANY)
TWO = some(ONE_A, "a", ANY)

NAMES_OF_ERRORS = (
    "InvalidRow", "InvalidQuestion", "InvalidNumber", "InvalidPlace", "InvalidScope",
    "InvalidBlocks", "InvalidAnswer", "NotLet", "NothingToUndo", "GameOver", "Unreadable",
)


def short_rows(letters, most):
    """All rows of these letters with at most so many of them."""
    return ["".join(row) for many in range(most + 1) for row in product(letters, repeat=many)]


def around(row, place):
    """What stands ahead of a place, and what stands behind it."""
    return row[:place], row[place + 1:]


@lru_cache(maxsize=None)
def alike(row, other, depth):
    """Point 6."""
    if depth == 0:
        return True
    return (
        all(good_places(row, place, other, depth) for place in range(len(row)))
        and all(good_places(other, place, row, depth) for place in range(len(other)))
    )


def good_places(row, place, other, depth):
    """The places of the other row that point 6 asks for, for a place of a row."""
    found = []
    for at in range(len(other)):
        ahead, behind = around(row, place)
        other_ahead, other_behind = around(other, at)
        if (
            row[place] == other[at]
            and alike(ahead, other_ahead, depth - 1)
            and alike(behind, other_behind, depth - 1)
        ):
            found.append(at)
    return found


def least_parting_depth(row, other):
    if row == other:
        return None
    depth = 0
    while alike(row, other, depth):
        depth += 1
    return depth


def winning(row, other, depth):
    if depth == 0:
        return []
    picks = [(0, at) for at in range(len(row)) if not good_places(row, at, other, depth)]
    return picks + [(1, at) for at in range(len(other)) if not good_places(other, at, row, depth)]


def same_sequence(pairs):
    """Whether the places stand in the same sequence in both rows."""
    return all(
        (one[0] < two[0]) == (one[1] < two[1]) and (one[0] == two[0]) == (one[1] == two[1])
        for one in pairs for two in pairs
    )


def can_last(row, other, picks, pairs=()):
    """The game of picks of point 7, played out; pairs are the places picked and answered."""
    if picks == 0:
        return True
    for place in range(len(row)):
        if not any(
            can_last(row, other, picks - 1, pairs + ((place, at),))
            for at in range(len(other))
            if row[place] == other[at] and same_sequence(pairs + ((place, at),))
        ):
            return False
    for at in range(len(other)):
        if not any(
            can_last(row, other, picks - 1, pairs + ((place, at),))
            for place in range(len(row))
            if row[place] == other[at] and same_sequence(pairs + ((place, at),))
        ):
            return False
    return True


def lets(row, question):
    """Point 5, on what a row lets."""
    if question[0] == "any":
        return True
    if question[0] == "not":
        return not lets(row, question[1])
    if question[0] == "both":
        return lets(row, question[1]) and lets(row, question[2])
    return any(
        row[at] == question[2] and lets(row[:at], question[1]) and lets(row[at + 1:], question[3])
        for at in range(len(row))
    )


def depth_by_words(question):
    """Point 5, on depths."""
    if question[0] == "any":
        return 0
    if question[0] == "not":
        return depth_by_words(question[1])
    if question[0] == "both":
        return max(depth_by_words(question[1]), depth_by_words(question[2]))
    return 1 + max(depth_by_words(question[1]), depth_by_words(question[3]))


def turned_by_words(question):
    """Ahead and behind exchanged everywhere."""
    if question[0] == "any":
        return question
    if question[0] == "not":
        return ("not", turned_by_words(question[1]))
    if question[0] == "both":
        return ("both", turned_by_words(question[1]), turned_by_words(question[2]))
    return some(turned_by_words(question[3]), question[2], turned_by_words(question[1]))


def letters_by_words(question):
    """The unlike letters, ascending."""
    if question[0] == "some":
        inner = letters_by_words(question[1]) + letters_by_words(question[3]) + [question[2]]
    else:
        inner = [letter for part in question[1:] for letter in letters_by_words(part)]
    return sorted(set(inner))


def both_of_all(questions):
    told = ANY
    for question in questions:
        told = ("both", told, question)
    return told


def picks_told(row, depth):
    """For each place of a row, the question of a depth that tells its kind."""
    return [
        some(kind_told(row[:at], depth - 1), row[at], kind_told(row[at + 1:], depth - 1))
        for at in range(len(row))
    ]


@lru_cache(maxsize=None)
def kind_told(row, depth):
    """A question of at most a depth that a row of a and b lets, to tell it from as many as can be."""
    if depth == 0:
        return ANY
    wanted = picks_told(row, depth)
    # Rows of up to three letters have the kinds of all rows here that the tests compare.
    others = {
        question
        for other in short_rows("ab", 3)
        for question in picks_told(other, depth)
        if not lets(row, question)
    }
    return both_of_all(sorted(wanted) + [("not", question) for question in sorted(others, key=repr)])


def plain_questions():
    """Questions of at most depth 1 about a and b."""
    base = [ANY, ONE_A, ONE_B]
    return base + [("not", part) for part in base] + [
        ("both", one, two) for one in base for two in base
    ]


def nested_questions():
    """Questions of all kinds, nested, of depths 0 to 4."""
    small = plain_questions()
    middle = [some(one, letter, two) for one in small for two in small[:6] for letter in "ab"]
    deep = [some(middle[k], "c", middle[-k - 1]) for k in range(0, len(middle), 7)]
    deeper = [some(("not", part), "z", ("both", part, ONE_B)) for part in deep]
    mixed = [("both", ("not", one), two) for one, two in zip(deep, reversed(middle))]
    return small + middle + deep + deeper + mixed


def nots(many, question=ANY):
    for _ in range(many):
        question = ("not", question)
    return question


@lru_cache(maxsize=None)
def kind(row, depth):
    """Point 6 once more: rows are alike to a depth exactly if they have equal kinds."""
    if depth == 0:
        return None
    return frozenset(
        (kind(row[:at], depth - 1), row[at], kind(row[at + 1:], depth - 1))
        for at in range(len(row)))


def least_rows(letters, depth, most):
    """The least one of each kind among all rows with at most so many letters, ascending."""
    found = {}
    for row in short_rows(letters, most):
        found.setdefault(kind(row, depth), row)
    return list(found.values())


def written_out(blocks):
    """The row that blocks stand for, with all its times."""
    return "".join(
        (part if isinstance(part, str) else written_out(part)) * times for part, times in blocks)


def places(row, question):
    """Point 5: the places at which a question "some" is met."""
    return [
        at for at in range(len(row))
        if row[at] == question[2] and lets(row[:at], question[1]) and lets(row[at + 1:], question[3])
    ]


def drawn_question(drawn, letters, depth, parts):
    """A question of at most a depth and about so many parts, drawn."""
    if parts < 3 or depth == 0:
        return drawn.choice([ANY, ANY, ("not", ANY)])
    word = drawn.choice(["not", "both", "some", "some", "some"])
    if word == "not":
        return ("not", drawn_question(drawn, letters, depth, parts - 1))
    if word == "both":
        return ("both", drawn_question(drawn, letters, depth, parts // 2),
                drawn_question(drawn, letters, depth, parts // 2))
    return some(drawn_question(drawn, letters, depth - 1, parts // 2), drawn.choice(letters),
                drawn_question(drawn, letters, depth - 1, parts // 2))


def drawn_row(drawn, letters, most):
    return "".join(drawn.choice(letters) for _ in range(drawn.randint(0, most)))


def at_least(many, letter):
    """A question of the least depth that asks for so many of a letter or more."""
    if many == 0:
        return ANY
    ahead = (many - 1) // 2
    return some(at_least(ahead, letter), letter, at_least(many - 1 - ahead, letter))


def none_of(letters):
    """A question that asks for a row without these letters."""
    return both_of_all([("not", some(ANY, letter, ANY)) for letter in letters])


def either(question, other):
    return ("not", ("both", ("not", question), ("not", other)))


def count_parts(question):
    return 1 + sum(count_parts(part) for part in question if isinstance(part, tuple))
