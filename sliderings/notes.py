"""How a row is written, and read again."""

from sliderings.errors import NotRead
from sliderings.rules import check_row, is_row

FIGURES = "0123456789"


def shown(row):
    check_row(row)
    return " ".join([str(number) for number in row])


def read(text):
    # Split at its blanks, the empty text would be one number without figures.
    words = text.split(" ") if text else []
    if not all([is_number(word) for word in words]):
        raise NotRead("a row is written by its numbers' figures with one blank between, none with a nought ahead")
    numbers = [int(word) for word in words]
    if not is_row(numbers):
        raise NotRead("the numbers that are written are no row")
    return numbers


# Python's own int reads more than figures (signs, blanks, underscores, noughts ahead), so each sign is looked at.
def is_number(word):
    if word == "" or not all([sign in FIGURES for sign in word]):
        return False
    return word == "0" or not word.startswith("0")
