import unittest
from itertools import combinations

from sliderings.errors import NoRule, NoSize
from sliderings.most import most, shortest
from sliderings.rules import is_row, keeps
from tests.helper import RULES, WRONG_RULES, plain_keeps

# The most for each bound from 1 on.
MOST = {
    "even": [1, 2, 2, 3, 4, 4, 4, 4, 5, 5, 6, 6, 7, 8, 8, 8, 8, 8, 8, 9],
    "sums": [1, 2, 2, 3, 3, 3, 4, 4, 4, 4, 4, 5, 5, 5, 5, 5, 5, 6, 6, 6],
    "parts": [0, 1, 1, 2, 2, 3, 3, 4, 4, 5, 5, 6, 6, 7, 7, 8, 8, 9, 9, 10],
}
# The least last number for each number of marks from 1 on.
SHORTEST = [0, 1, 3, 6, 11, 17]
WRONG_BOUNDS = (-(10 ** 60 - 1), -20, -1, 0, 21, 22, 100, 10 ** 12, 10 ** 60 - 1)
WRONG_MARKS = (-(10 ** 60 - 1), -6, -1, 0, 7, 8, 20, 10 ** 12, 10 ** 60 - 1)


def some_row_keeps(rule, size, bound):
    return any(plain_keeps(row, rule) for row in combinations(range(bound), size))


class Most(unittest.TestCase):
    def test_how_many_for_each_bound(self):
        for rule in RULES:
            for bound in range(1, 21):
                with self.subTest(rule=rule, bound=bound):
                    self.assertEqual(most(rule, bound)[0], MOST[rule][bound - 1])

    def test_the_row_told_shows_that_there_are_so_many(self):
        for rule in RULES:
            for bound in range(1, 21):
                many, row = most(rule, bound)
                with self.subTest(rule=rule, bound=bound):
                    self.assertEqual(len(row), many)
                    self.assertIs(is_row(row), True)
                    self.assertTrue(all(0 <= number < bound for number in row))
                    self.assertTrue(plain_keeps(row, rule))
                    self.assertIs(keeps(row, rule), True)

    def test_no_row_has_more(self):
        # A rule is kept on when numbers are left out, so where no row has one more, none has still more.
        for rule in RULES:
            for bound in range(1, 15):
                with self.subTest(rule=rule, bound=bound):
                    self.assertFalse(some_row_keeps(rule, most(rule, bound)[0] + 1, bound))

    def test_by_sums_no_row_has_more_for_any_bound(self):
        for bound in range(1, 21):
            with self.subTest(bound=bound):
                self.assertFalse(some_row_keeps("sums", most("sums", bound)[0] + 1, bound))

    def test_by_parts_half_of_the_numbers_above_nought_rounded_up(self):
        for bound in range(1, 21):
            with self.subTest(bound=bound):
                above_nought = len(range(1, bound))
                self.assertEqual(most("parts", bound)[0], above_nought // 2 + above_nought % 2)

    def test_bound_one(self):
        self.assertEqual(most("even", 1), (1, [0]))
        self.assertEqual(most("sums", 1), (1, [0]))
        self.assertEqual(most("parts", 1), (0, []))

    def test_kinds(self):
        for rule in RULES:
            for bound in range(1, 21):
                told = most(rule, bound)
                with self.subTest(rule=rule, bound=bound):
                    self.assertIs(type(told), tuple)
                    self.assertEqual(len(told), 2)
                    self.assertIs(type(told[0]), int)
                    self.assertIs(type(told[1]), list)
                    self.assertTrue(all(type(number) is int for number in told[1]))

    def test_argument_names(self):
        self.assertEqual(most(rule="even", bound=2), (2, [0, 1]))

    def test_what_is_told_is_the_askers_own(self):
        for rule in RULES:
            for bound in (1, 2, 9, 20):
                first = most(rule, bound)
                second = most(rule, bound)
                right = list(first[1])
                with self.subTest(rule=rule, bound=bound):
                    self.assertIsNot(first[1], second[1])
                    first[1].append(-1)
                    self.assertEqual(second[1], right)
                    self.assertEqual(most(rule, bound), (len(right), right))


class Shortest(unittest.TestCase):
    def test_the_last_number_for_each_number_of_marks(self):
        for marks in range(1, 7):
            with self.subTest(marks=marks):
                self.assertEqual(shortest(marks)[0], SHORTEST[marks - 1])

    def test_the_row_told_is_such_a_ruler(self):
        for marks in range(1, 7):
            last, row = shortest(marks)
            with self.subTest(marks=marks):
                self.assertEqual(len(row), marks)
                self.assertEqual(row[0], 0)
                self.assertEqual(row[-1], last)
                self.assertIs(is_row(row), True)
                self.assertTrue(plain_keeps(row, "sums"))
                self.assertIs(keeps(row, "sums"), True)

    def test_no_ruler_is_shorter(self):
        for marks in range(2, 7):
            last = shortest(marks)[0]
            for others in combinations(range(1, last), marks - 1):
                with self.subTest(marks=marks, others=others):
                    self.assertFalse(plain_keeps((0,) + others, "sums"))

    def test_only_rulers_there_are(self):
        self.assertEqual(shortest(1), (0, [0]))
        self.assertEqual(shortest(2), (1, [0, 1]))
        self.assertIn(shortest(3), [(3, [0, 1, 3]), (3, [0, 2, 3])])
        self.assertIn(shortest(4), [(6, [0, 1, 4, 6]), (6, [0, 2, 5, 6])])

    def test_kinds(self):
        for marks in range(1, 7):
            told = shortest(marks)
            with self.subTest(marks=marks):
                self.assertIs(type(told), tuple)
                self.assertEqual(len(told), 2)
                self.assertIs(type(told[0]), int)
                self.assertIs(type(told[1]), list)
                self.assertTrue(all(type(number) is int for number in told[1]))

    def test_argument_name(self):
        self.assertEqual(shortest(marks=2), (1, [0, 1]))

    def test_what_is_told_is_the_askers_own(self):
        for marks in range(1, 7):
            first = shortest(marks)
            second = shortest(marks)
            right = list(first[1])
            with self.subTest(marks=marks):
                self.assertIsNot(first[1], second[1])
                first[1].append(-1)
                self.assertEqual(second[1], right)
                self.assertEqual(shortest(marks), (right[-1], right))


class Refusals(unittest.TestCase):
    def refused(self, refusal, asked, *handed):
        with self.subTest(asked=asked.__name__, handed=handed):
            with self.assertRaises(refusal) as caught:
                asked(*handed)
            self.assertIs(type(caught.exception), refusal)

    def test_no_rule(self):
        for rule in WRONG_RULES:
            for bound in range(1, 21):
                self.refused(NoRule, most, rule, bound)

    def test_no_size_of_a_bound(self):
        for rule in RULES:
            for bound in WRONG_BOUNDS:
                self.refused(NoSize, most, rule, bound)

    def test_no_size_of_marks(self):
        for marks in WRONG_MARKS:
            self.refused(NoSize, shortest, marks)

    def test_no_rule_goes_ahead_of_no_size(self):
        for rule in WRONG_RULES:
            for bound in WRONG_BOUNDS:
                self.refused(NoRule, most, rule, bound)


if __name__ == "__main__":
    unittest.main()
