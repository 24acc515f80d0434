"""A row taken so many times and moved, and the differences of a row."""

from sliderings.errors import NoNumber
from sliderings.rules import check_row, in_bounds


def moved(row, by, times):
    check_row(row)
    if times < 1:
        raise NoNumber("a row is taken 1 or more times")
    image = [number * times + by for number in row]
    if not all([in_bounds(number) for number in image]):
        raise NoNumber("a number of the row would come to lie below 0 or above 10 ** 12")
    return image


def differences(row):
    check_row(row)
    counts = {}
    for place, greater in enumerate(row):
        for lesser in row[:place]:
            difference = greater - lesser
            counts[difference] = counts.get(difference, 0) + 1
    return sorted(counts.items())
