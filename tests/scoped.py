"""Questions that lie in scopes, and such that do not."""

from random import Random

from tests.reference import (
    ANY, ONE_A, ONE_B, TWO, at_least, count_parts, drawn_question, either, nots, some)

# The greatest depth of a scope, for each number of letters.
DEPTHS = {1: 4, 2: 2, 3: 1, 4: 1}

ONE_C, ONE_D = some(ANY, "c", ANY), some(ANY, "d", ANY)
NO_QUESTIONS = (None, 0, True, "any", [], (), ["any"], ("any", ANY), ("some", "a"), ("not", None),
                some(ANY, "A", ANY), some(ANY, "ab", ANY), ("both", ONE_A, ["any"]), ("both", ANY))

# Questions, and a number of letters, that lie in no scope; with the depth of the error.
OUTSIDE = (
    (ANY, 0, 0), (ANY, 5, 0), (ANY, -1, 0), (ANY, 100, 0), (ANY, -100, 0), (nots(3), 5, 0),
    (ONE_A, 0, 1), (ONE_A, 5, 1), (ONE_A, -3, 1), (TWO, 3, 2), (TWO, 4, 2), (TWO, 5, 2), (TWO, 0, 2),
    (at_least(5, "a"), 2, 3), (at_least(8, "a"), 2, 4), (at_least(16, "a"), 1, 5), (at_least(5, "a"), 3, 3),
    (at_least(40, "a"), 1, 6), (at_least(40, "a"), 0, 6),
    (ONE_B, 1, 1), (("not", ONE_B), 1, 1), (ONE_C, 2, 1), (ONE_C, 1, 1), (ONE_D, 3, 1), (ONE_D, 2, 1),
    (some(ANY, "e", ANY), 4, 1), (some(ANY, "z", ANY), 1, 1), (some(ANY, "z", ANY), 4, 1),
    (("both", ONE_A, ONE_B), 1, 1), (some(ONE_B, "a", ANY), 1, 2), (some(ANY, "a", ONE_C), 2, 2),
    (some(("not", ONE_C), "a", ANY), 2, 2), (("both", ANY, ("not", ("both", ONE_D, ANY))), 3, 1),
)
INSIDE = ((ANY, 1), (ANY, 2), (ANY, 3), (ANY, 4), (ONE_A, 1), (ONE_B, 2), (ONE_C, 3), (ONE_D, 4),
          (ONE_C, 4), (TWO, 1), (TWO, 2), (at_least(4, "a"), 1), (at_least(15, "a"), 1))


def drawn_questions(many):
    drawn = Random(60 + many)
    letters, depth = "abcd"[:many], DEPTHS[many]
    return [drawn_question(drawn, letters, drawn.randint(0, depth), drawn.randint(3, 60))
            for _ in range(60)]


def great_questions(many):
    """Questions of the greatest depth of the scope of so many letters, and of nearly 200 parts."""
    if many == 1:
        return [every_other(12), ("not", every_other(12)), nots(70, at_least(15, "a"))]
    return [great_question(many, Random(seed + many)) for seed in (20, 220, 390)]


def great_question(many, drawn):
    ones = [some(ANY, letter, ANY) for letter in "abcd"[:many]]
    inner = [ANY] + ones + [("not", one) for one in ones] if many == 2 else [ANY]
    question = ONE_A
    while count_parts(question) < 180:
        other = some(drawn.choice(inner), drawn.choice("abcd"[:many]), drawn.choice(inner))
        question = drawn.choice(
            [("both", ("not", question), other), either(question, other), ("not", question)])
    return question


def every_other(most, letter="a"):
    """A question of rows with an odd number of a letter, at most so many; most is even."""
    question = at_least(most, letter)
    for many in range(most - 1, 0, -1):
        question = ("both", at_least(many, letter), ("not", question))
    return question
