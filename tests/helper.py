"""What the tests share: the rules told over again in the plainest way, and rows to try them on."""

from itertools import combinations, combinations_with_replacement

GREATEST = 10 ** 12
RULES = ("even", "sums", "parts")
WRONG_RULES = ("", "Even", "sum", "parts ", " even", "even\n", "none")

EVEN_20 = [0, 1, 3, 4, 9, 10, 12, 13, 27, 28, 30, 31, 36, 37, 39, 40, 81, 82, 84, 85]
SUMS_20 = [0, 1, 3, 7, 12, 20, 30, 44, 65, 80, 96, 122, 147, 181, 203, 251, 289, 360, 400, 474]
PARTS_20 = list(range(1, 40, 2))
FULL = {"even": EVEN_20, "sums": SUMS_20, "parts": PARTS_20}

# Powers of three keep each rule, and reach nearly to the greatest number.
THREES_20 = [3 ** power for power in range(6, 26)]

NO_ROWS = [
    [-1],
    [-1, 0, 1],
    [-(10 ** 59)],
    [-(10 ** 60 - 1), 5],
    [GREATEST + 1],
    [0, GREATEST + 1],
    [10 ** 59],
    [0, 1, 10 ** 60 - 1],
    [3, 3],
    [0, 0],
    [1, 2, 2, 3],
    [GREATEST, GREATEST],
    [2, 1],
    [1, 3, 2],
    [1, 0, 2],
    [0, 2, 1, 3],
    [4, 5, 6, 0],
    list(range(21)),
    list(range(1, 43, 2)),
    EVEN_20 + [90],
    list(range(59)),
    list(range(60)),
    list(range(60, 0, -1)),
    [10 ** 59 + step for step in range(60)],
    [7] * 60,
]


def plain_keeps(numbers, rule):
    if rule == "even":
        return not any(b - a == c - b for a, b, c in combinations(sorted(numbers), 3))
    sums = [a + b for a, b in combinations_with_replacement(numbers, 2)]
    if rule == "sums":
        return len(set(sums)) == len(sums)
    return not set(sums) & set(numbers)


def plain_grown(row, rule, more):
    numbers = list(row)
    for step in range(more):
        number = max(numbers, default=-1) + 1
        while not plain_keeps(numbers + [number], rule):
            number += 1
        numbers.append(number)
    return numbers


def is_breach(told, numbers, rule):
    if not isinstance(told, tuple) or any(number not in numbers for number in told):
        return False
    if rule == "sums":
        if len(told) != 4:
            return False
        a, b, c, d = told
        return a <= b and c <= d and a < c and a + b == c + d
    if len(told) != 3:
        return False
    a, b, c = told
    if rule == "even":
        return a < b < c and b - a == c - b
    return a <= b and a + b == c


def small_rows():
    return [list(row) for size in range(6) for row in combinations(range(11), size)]


def large_rows():
    return [
        EVEN_20,
        SUMS_20,
        PARTS_20,
        THREES_20,
        list(range(20)),
        list(range(1, 21)),
        list(range(20, 40)),
        list(range(GREATEST - 19, GREATEST + 1)),
        [2 ** power for power in range(20, 40)],
        [number + 1000 for number in EVEN_20],
        [number + 1000 for number in SUMS_20],
        [number * 10 ** 9 for number in SUMS_20],
        [GREATEST - number for number in reversed(SUMS_20)],
        [GREATEST - number for number in reversed(EVEN_20)],
        EVEN_20[:19] + [GREATEST],
        SUMS_20[:19] + [GREATEST],
        PARTS_20[:19] + [GREATEST],
        EVEN_20[:19] + [86],
        SUMS_20[:19] + [401],
        PARTS_20[:19] + [38],
        [0],
        [GREATEST],
        [0, GREATEST],
        [GREATEST // 2, GREATEST],
        [0, GREATEST // 2, GREATEST],
        [0, GREATEST // 2 - 1, GREATEST],
        [0, 1, GREATEST - 1, GREATEST],
        [1, 2, GREATEST - 1],
        [1, GREATEST - 1, GREATEST],
        [3, 10, GREATEST - 10, GREATEST - 3],
        [3, 10, GREATEST - 10, GREATEST - 4],
        [1, 3, GREATEST // 2 + 1, GREATEST],
    ]
