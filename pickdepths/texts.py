"""The texts of questions."""

from pickdepths.questions import check_question, parts_of


def show_question(question):
    """Return the text of a question."""
    check_question(question)
    texts = []
    # From the last part to the first one, the texts of those within a part come ahead of its own.
    for part in reversed(parts_of(question)):
        texts.append(text_of_part(part, texts))
    return texts.pop()


def text_of_part(part, texts):
    """Return the text of a part, and take those of what stands within it off the texts."""
    word = part[0]
    if word == "any":
        return "*"
    first = texts.pop()
    if word == "not":
        return f"!{first}"
    second = texts.pop()
    if word == "both":
        return f"({first} & {second})"
    return f"[{first} {part[2]} {second}]"
