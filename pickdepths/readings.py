"""Questions read from their texts."""

from pickdepths.checks import is_letter
from pickdepths.errors import Unreadable
from pickdepths.questions import SIZES

# What is to come behind the first sign of a question's text, the last of it first: signs, the
# texts of other questions, letters, and the word of the question, once it is whole.
FORMS = {
    "*": ("any",),
    "!": ("not", "question"),
    "(": ("both", ")", "question", " ", "&", " ", "question"),
    "[": ("some", "]", "question", " ", "letter", " ", "question"),
}


def read_question(text):
    """Return the question with a text."""
    found = []
    coming = ["question"]
    at = 0
    # A list of what is to come, no calls within calls: questions may lie two hundred deep.
    while coming:
        what = coming.pop()
        if what in SIZES:
            put_together(what, found)
        else:
            sign = text[at:at + 1]
            if not fits(sign, what):
                raise Unreadable(text)
            at += 1
            if what == "question":
                coming.extend(FORMS[sign])
            elif what == "letter":
                found.append(sign)
    if at < len(text):
        raise Unreadable(text)
    return found.pop()


def fits(sign, what):
    """Tell whether a sign is what is to come, or begins it; behind the text there is no sign."""
    if what == "question":
        return sign in FORMS
    if what == "letter":
        return is_letter(sign)
    return sign == what


def put_together(word, found):
    """Put what was found last together to a question that begins with a word."""
    start = len(found) - (SIZES[word] - 1)
    question = (word, *found[start:])
    del found[start:]
    found.append(question)
