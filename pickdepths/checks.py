"""Checks of the rows and numbers that callers pass."""

from pickdepths.errors import InvalidNumber, InvalidRow


def is_letter(sign):
    """Tell whether a string of one sign is a letter from a to z."""
    return "a" <= sign <= "z"


def check_row(row):
    """Raise an error for the first sign of a row that is no letter from a to z."""
    for index, sign in enumerate(row):
        if not is_letter(sign):
            raise InvalidRow(index)


def check_rows(row, other_row):
    """Raise an error for the first sign of two rows that is no letter from a to z."""
    check_row(row)
    check_row(other_row)


def check_not_negative(number):
    """Raise an error for a negative depth, length or number of picks."""
    if number < 0:
        raise InvalidNumber(number)
