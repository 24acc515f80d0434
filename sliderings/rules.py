"""What a row is, the three rules, and the breaches that show that a row doesn't keep one."""

from sliderings.errors import NoRow, NoRule

MOST_NUMBERS = 20
# This is 10 ** 12, written out because a file's top holds plain values alone.
GREATEST = 1000000000000
RULES = ("even", "sums", "parts")


def is_row(some):
    return len(some) <= MOST_NUMBERS and all([in_bounds(number) for number in some]) and rises(some)


def keeps(row, rule):
    return breach(row, rule) is None


def breach(row, rule):
    check_rule(rule)
    check_row(row)
    return found_breach(row, rule)


def in_bounds(number):
    return 0 <= number <= GREATEST


def rises(numbers):
    return all([ahead < behind for ahead, behind in zip(numbers, numbers[1:])])


def check_rule(rule):
    if rule not in RULES:
        raise NoRule(f"no rule is called {rule!r}")


def check_row(row):
    if not is_row(row):
        raise NoRow("a row is a list of 0 to 20 numbers from 0 to 10 ** 12, each greater than the one ahead")


# Unlike breach, this takes rising numbers of any length: a row of 20 with one more is no row, but may be asked about.
def found_breach(numbers, rule):
    if rule == "even":
        return even_breach(numbers)
    if rule == "sums":
        return sums_breach(numbers)
    return parts_breach(numbers)


def even_breach(numbers):
    for place, middle in enumerate(numbers):
        for first in numbers[:place]:
            last = 2 * middle - first
            if last in numbers:
                return (first, middle, last)
    return None


def sums_breach(numbers):
    pairs = {}
    for place, first in enumerate(numbers):
        for second in numbers[place:]:
            whole = first + second
            # Two pairs with one first number never sum alike, so the pair found earlier begins with a lesser one.
            if whole in pairs:
                return pairs[whole] + (first, second)
            pairs[whole] = (first, second)
    return None


def parts_breach(numbers):
    for place, first in enumerate(numbers):
        for second in numbers[place:]:
            whole = first + second
            if whole in numbers:
                return (first, second, whole)
    return None
