"""How a row that keeps a rule grows, and why a number fell."""

from sliderings.errors import Broken, NoNumber, NoSize
from sliderings.rules import GREATEST, MOST_NUMBERS, breach, found_breach, in_bounds


def grown(row, rule, more):
    check_kept(row, rule)
    if more < 0 or len(row) + more > MOST_NUMBERS:
        raise NoSize("a row grows by 0 or more numbers, to at most 20 in all")
    numbers = list(row)
    while len(numbers) < len(row) + more:
        numbers.append(least_above(numbers, rule))
    return numbers


def fell(row, rule, number):
    check_kept(row, rule)
    if not in_bounds(number):
        raise NoNumber("only a number from 0 to 10 ** 12 can have fallen")
    if number in row:
        return None
    # The row by itself has no breach, so any that is found has the number in it.
    return found_breach(sorted(row + [number]), rule)


def check_kept(row, rule):
    if breach(row, rule) is not None:
        raise Broken("the row doesn't keep the rule")


def least_above(numbers, rule):
    number = numbers[-1] + 1 if numbers else 0
    while number <= GREATEST:
        if found_breach(numbers + [number], rule) is None:
            return number
        number += 1
    raise NoNumber("the row would have to grow by a number above 10 ** 12")
