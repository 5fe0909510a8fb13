"""Numbers for the kinds of rows: two rows are alike to a depth if their numbers are equal."""


class Kinds:
    """Gives numbers to the kinds of rows to all depths. Only numbers of one object can be compared.

    To the depth 0 there is one kind, with the number 0. Each other kind is told by its marks, the
    unlike tuples (kind ahead, letter, kind behind) of the places of a row, to one depth less.
    """

    def __init__(self):
        self.known_kinds = {}
        self.known_places = {}
        self.numbers = {}
        self.marks = [()]
        self.depths = [0]
        self.lesser_kinds = {0: 0}
        self.longer_behind = {}
        self.longer_ahead = {}

    def alike(self, row, other_row, depth):
        """Tell whether two rows are alike to a depth."""
        if row == other_row:
            return True
        # Most rows part at a small depth if they do, which takes far less time than a great one.
        for lesser_depth in range(1, depth + 1):
            if self.of_row(row, lesser_depth) != self.of_row(other_row, lesser_depth):
                return False
        return True

    def of_row(self, row, depth):
        """Return the kind of a row to a depth."""
        if depth == 0:
            return 0
        key = (row, depth)
        if key not in self.known_kinds:
            marks = self.places(row, depth - 1)
            self.known_kinds[key] = self.numbered(depth, tuple(sorted(set(marks))))
        return self.known_kinds[key]

    def places(self, row, depth):
        """Return the list of the marks of the places of a row, with kinds to a depth."""
        key = (row, depth)
        if key not in self.known_places:
            self.known_places[key] = self.marks_of_places(row, depth)
        return self.known_places[key]

    def marks_of_places(self, row, depth):
        """Return the marks of the places of a row, found from both ends of the row."""
        if depth == 0:
            return [(0, letter, 0) for letter in row]
        behind = self.empty(depth)
        kinds_behind = []
        for letter in row[::-1]:
            kinds_behind.append(behind)
            behind = self.added_ahead(letter, behind)
        ahead = self.empty(depth)
        marks = []
        for letter in row:
            marks.append((ahead, letter, kinds_behind.pop()))
            ahead = self.added_behind(ahead, letter)
        return marks

    def empty(self, depth):
        """Return the kind of the empty row to a depth."""
        return self.numbered(depth, ())

    def numbered(self, depth, marks):
        """Return the kind to a depth with these marks, ascending; it is new if none had them yet."""
        # To the depth 0 all rows are alike, whatever their marks.
        if depth == 0:
            return 0
        key = (depth, marks)
        if key not in self.numbers:
            self.numbers[key] = len(self.marks)
            self.marks.append(marks)
            self.depths.append(depth)
        return self.numbers[key]

    def lesser(self, kind):
        """Return the kind to one depth less of the rows of a kind."""
        if kind not in self.lesser_kinds:
            depth = self.depths[kind] - 1
            marks = self.marks[kind]
            found = set()
            for ahead, letter, behind in marks:
                found.add((self.lesser(ahead), letter, self.lesser(behind)))
            self.lesser_kinds[kind] = self.numbered(depth, tuple(sorted(found)))
        return self.lesser_kinds[kind]

    def added_behind(self, kind, letter):
        """Return the kind of the rows of a kind with a letter behind them, to the same depth."""
        if kind == 0:
            return 0
        key = (kind, letter)
        if key not in self.longer_behind:
            depth = self.depths[kind]
            marks = self.marks[kind]
            found = set()
            for ahead, sign, behind in marks:
                found.add((ahead, sign, self.added_behind(behind, letter)))
            found.add((self.lesser(kind), letter, self.empty(depth - 1)))
            self.longer_behind[key] = self.numbered(depth, tuple(sorted(found)))
        return self.longer_behind[key]

    def added_ahead(self, letter, kind):
        """Return the kind of the rows of a kind with a letter ahead of them, to the same depth."""
        if kind == 0:
            return 0
        key = (letter, kind)
        if key not in self.longer_ahead:
            depth = self.depths[kind]
            marks = self.marks[kind]
            found = set()
            for ahead, sign, behind in marks:
                found.add((self.added_ahead(letter, ahead), sign, behind))
            found.add((self.empty(depth - 1), letter, self.lesser(kind)))
            self.longer_ahead[key] = self.numbered(depth, tuple(sorted(found)))
        return self.longer_ahead[key]
