"""The errors of the package. Each one keeps the value that it is about."""


class PickError(ValueError):
    """Any failure that the package names; the others are direct subclasses of it."""

    def __init__(self, value):
        ValueError.__init__(self, value)
        self.value = value


class InvalidRow(PickError):
    """A sign of a row is not one of the letters it may have; the value is its index."""


class InvalidQuestion(PickError):
    """Something is no question, or none of the kind that is asked for."""


class InvalidNumber(PickError):
    """A number is outside of what it may be."""


class InvalidPlace(PickError):
    """A row has no such place, or none that is free."""


class InvalidScope(PickError):
    """A number of letters and a depth are no scope; the value is the two of them."""


class InvalidBlocks(PickError):
    """Lists of blocks lie too deep within one another; the value is their depth."""


class InvalidAnswer(PickError):
    """A place does not answer a pick."""


class NotLet(PickError):
    """A row does not let a question."""


class NothingToUndo(PickError):
    """There is no call to take back."""


class GameOver(PickError):
    """The game does not wait for such a call."""


class Unreadable(PickError):
    """No question has this text."""
