"""Questions: which values are questions, their depths and letters, and questions turned round."""

from pickdepths.checks import is_letter
from pickdepths.errors import InvalidQuestion

# How many things a tuple of each kind has, its word counted.
SIZES = {"any": 1, "not": 2, "both": 3, "some": 4}


def is_question(value):
    """Tell whether any value is a question."""
    # A list of what waits, no calls within calls: a question may lie two hundred deep.
    waiting = [value]
    while waiting:
        part = waiting.pop()
        if not has_form(part):
            return False
        waiting.extend(inner_questions(part))
    return True


def depth_of(question):
    """Return the depth of a question."""
    check_question(question)
    deepest = 0
    waiting = [(question, 0)]
    while waiting:
        part, depth = waiting.pop()
        if part[0] == "some":
            depth += 1
        deepest = max(deepest, depth)
        for inner in inner_questions(part):
            waiting.append((inner, depth))
    return deepest


def letters_in(question):
    """Return the ascending list of the unlike letters of a question."""
    check_question(question)
    letters = set()
    for part in parts_of(question):
        if part[0] == "some":
            letters.add(part[2])
    return sorted(letters)


def turned_question(question):
    """Return a question with ahead and behind exchanged everywhere."""
    check_question(question)
    turned = []
    # From the last part to the first one, those within a part are turned when it comes.
    for part in reversed(parts_of(question)):
        turned.append(turned_part(part, turned))
    return turned.pop()


def turned_part(part, turned):
    """Return a part turned round, and take those within it off the turned ones."""
    word = part[0]
    if word == "any":
        return ("any",)
    first = turned.pop()
    if word == "not":
        return ("not", first)
    second = turned.pop()
    if word == "both":
        return ("both", first, second)
    return ("some", second, part[2], first)


def parts_of(question):
    """Return the list of the parts of a question, each one ahead of those within it."""
    parts = []
    waiting = [question]
    while waiting:
        part = waiting.pop()
        parts.append(part)
        waiting.extend(inner_questions(part)[::-1])
    return parts


def inner_questions(part):
    """Return the list of what stands directly within a part where a question has to stand."""
    if part[0] == "some":
        return [part[1], part[3]]
    return list(part[1:])


def has_form(value):
    """Tell whether a value is a question if what stands within it are questions."""
    if not isinstance(value, tuple) or len(value) == 0:
        return False
    word = value[0]
    # Only strings are compared: another object may be equal to whatever it likes.
    if not isinstance(word, str) or SIZES.get(word, 0) != len(value):
        return False
    return word != "some" or is_one_letter(value[2])


def is_one_letter(value):
    """Tell whether any value is a string of one letter from a to z."""
    return isinstance(value, str) and len(value) == 1 and is_letter(value)


def check_question(question):
    """Raise an error for a value that is no question."""
    if not is_question(question):
        raise InvalidQuestion(question)
