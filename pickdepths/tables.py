"""Tables that tell which rows let a question, made from its innermost parts outwards."""

from pickdepths.questions import parts_of


def table_of(question, asked):
    """Return the table of a question, for the rows or kinds that are asked."""
    tables = []
    # From the last part to the first one, the tables of those within a part come ahead of its own.
    for part in reversed(parts_of(question)):
        tables.append(table_of_part(part, tables, asked))
    return tables.pop()


def table_of_part(part, tables, asked):
    """Return the table of a part, and take those of what stands within it off the tables."""
    word = part[0]
    if word == "any":
        return asked.whole
    first = tables.pop()
    if word == "not":
        return [whole ^ told for whole, told in zip(asked.whole, first)]
    second = tables.pop()
    if word == "both":
        return [told & other for told, other in zip(first, second)]
    return asked.met(first, part[2], second)


class Stretches:
    """All stretches of a row. A table has for each start the bits of the ends that let a question."""

    def __init__(self, row):
        self.row = row
        most = 1 << (len(row) + 1)
        self.whole = [most - (1 << start) for start in range(len(row) + 1)]

    def met(self, ahead, letter, behind):
        """Return the table of a question "some", of the tables of what it asks."""
        table = [0] * len(self.whole)
        for place, sign in enumerate(self.row):
            if sign == letter:
                ends = behind[place + 1]
                for start in range(place + 1):
                    if holds(ahead, start, place):
                        table[start] = table[start] | ends
        return table


def holds(table, start, end):
    """Tell whether the stretch of a row from a start to an end lets the question of a table."""
    return ((table[start] >> end) & 1) == 1


class AskedKinds:
    """All kinds that have numbers. A table has for each of them 1 if its rows let a question.

    It is right for the kinds to at least the depth of the question: the others do not tell enough.
    """

    def __init__(self, kinds):
        self.whole = [1] * len(kinds.marks)
        self.marks_with = {}
        for kind, marks in enumerate(kinds.marks):
            for ahead, letter, behind in marks:
                self.marks_with.setdefault(letter, []).append((kind, ahead, behind))

    def met(self, ahead, letter, behind):
        """Return the table of a question "some", of the tables of what it asks."""
        table = [0] * len(self.whole)
        for kind, kind_ahead, kind_behind in self.marks_with.get(letter, []):
            if ahead[kind_ahead] and behind[kind_behind]:
                table[kind] = 1
        return table
