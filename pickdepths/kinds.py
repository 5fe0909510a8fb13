"""Numbers for the kinds of rows: two rows are alike to a depth if their numbers are equal."""


class Kinds:
    """Gives numbers to rows. Only numbers to one depth, and of one object, can be compared."""

    def __init__(self):
        self.known = {}
        self.numbers = {}

    def number(self, row, depth):
        """Return the number of the kind of a row to a depth."""
        if depth == 0:
            return 0
        key = (row, depth)
        if key not in self.known:
            marks = self.marks(row, depth - 1)
            # The same marks get the same number again, whichever row has them.
            self.known[key] = self.numbers.setdefault(marks, len(self.numbers))
        return self.known[key]

    def marks(self, row, depth):
        """Return the unlike marks of the places of a row, in a fixed sequence."""
        found = set()
        for place in range(len(row)):
            found.add(self.mark(row, place, depth))
        return tuple(sorted(found))

    def mark(self, row, place, depth):
        """Return the letter at a place, and the kinds to a depth of what stands ahead and behind."""
        ahead = self.number(row[:place], depth)
        behind = self.number(row[place + 1:], depth)
        return (row[place], ahead, behind)
