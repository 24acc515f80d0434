"""The most numbers that a row by a rule can have below a bound, and the shortest rulers."""

from sliderings.errors import NoSize
from sliderings.rules import check_rule, found_breach

GREATEST_BOUND = 20
MOST_MARKS = 6


def most(rule, bound):
    check_rule(rule)
    if not 1 <= bound <= GREATEST_BOUND:
        raise NoSize("a bound is from 1 to 20")
    row = longest([], rule, 0, bound)
    return (len(row), row)


def shortest(marks):
    if not 1 <= marks <= MOST_MARKS:
        raise NoSize("a ruler has 1 to 6 marks")
    last = 0
    row = ruler([0], marks, last)
    # The first length at which there is a ruler is the least, so the ruler found there ends at it and no earlier.
    while row is None:
        last += 1
        row = ruler([0], marks, last)
    return (last, row)


# A row that keeps a rule keeps it with any of its numbers left out, so rows that don't keep it need no more numbers.
def longest(numbers, rule, start, bound):
    best = numbers
    for number in range(start, bound):
        # Where all that is left together would not make a longer row, none is looked for.
        if len(numbers) + bound - number <= len(best):
            return best
        wider = numbers + [number]
        if found_breach(wider, rule) is None:
            found = longest(wider, rule, number + 1, bound)
            if len(found) > len(best):
                best = found
    return best


def ruler(numbers, marks, last):
    if len(numbers) == marks:
        return numbers
    for number in range(numbers[-1] + 1, last + 1):
        wider = numbers + [number]
        if found_breach(wider, "sums") is None:
            found = ruler(wider, marks, last)
            if found is not None:
                return found
    return None
