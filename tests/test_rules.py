import unittest

from sliderings.errors import NoRow, NoRule
from sliderings.rules import breach, is_row, keeps
from tests.helper import (
    EVEN_20, FULL, GREATEST, NO_ROWS, PARTS_20, RULES, SUMS_20, THREES_20, WRONG_RULES,
    is_breach, large_rows, plain_keeps, small_rows,
)


class Rows(unittest.TestCase):
    def test_lists_that_are_rows(self):
        rows = [[], [0], [1], [GREATEST], [0, 1], [0, GREATEST], [GREATEST - 1, GREATEST], list(range(19)),
                list(range(20)), list(range(GREATEST - 19, GREATEST + 1))]
        for row in rows + small_rows() + large_rows():
            with self.subTest(row=row):
                self.assertIs(is_row(row), True)

    def test_lists_that_are_no_rows(self):
        for some in NO_ROWS:
            with self.subTest(some=some):
                self.assertIs(is_row(some), False)

    def test_length_alone_makes_a_list_no_row(self):
        for length in range(61):
            with self.subTest(length=length):
                self.assertIs(is_row(list(range(length))), length <= 20)

    def test_bounds_of_each_place(self):
        for place in range(20):
            for number in (-(10 ** 59), -1, GREATEST + 1, 10 ** 60 - 1):
                row = list(range(100, 2100, 100))
                row[place] = number
                with self.subTest(row=row):
                    self.assertIs(is_row(row), False)

    def test_two_numbers_alike_or_changed_about(self):
        for place in range(19):
            alike = list(range(20))
            alike[place] = place + 1
            about = list(range(20))
            about[place] = place + 1
            about[place + 1] = place
            with self.subTest(place=place):
                self.assertIs(is_row(alike), False)
                self.assertIs(is_row(about), False)

    def test_argument_name(self):
        self.assertIs(is_row(some=[1, 2]), True)


class Rules(unittest.TestCase):
    def check(self, row, rule, kept):
        told = breach(row, rule)
        self.assertIs(keeps(row, rule), kept)
        if kept:
            self.assertIsNone(told)
        else:
            self.assertTrue(is_breach(told, row, rule), told)

    def test_even(self):
        for row in ([], [0], [7], [0, 1], [0, 1, 3], [0, 2, 3], [0, 1, 3, 4], EVEN_20, THREES_20):
            with self.subTest(row=row):
                self.check(row, "even", True)
        for row in ([0, 1, 2], [1, 2, 3], [0, 5, 10], [1, 2, 4, 7], [0, GREATEST // 2, GREATEST], EVEN_20[:19] + [86]):
            with self.subTest(row=row):
                self.check(row, "even", False)

    def test_sums(self):
        for row in ([], [0], [7], [0, 1], [0, 1, 3], [1, 2, 4], [0, 1, 3, 7], [1, 2, 5, 7], SUMS_20, THREES_20):
            with self.subTest(row=row):
                self.check(row, "sums", True)
        for row in ([0, 1, 2], [0, 1, 3, 4], [1, 2, 3], [0, 1, GREATEST - 1, GREATEST], SUMS_20[:19] + [401]):
            with self.subTest(row=row):
                self.check(row, "sums", False)

    def test_parts(self):
        for row in ([], [1], [7], [1, 3], [2, 3], [2, 3, 7], [1, GREATEST], PARTS_20, THREES_20, list(range(20, 40))):
            with self.subTest(row=row):
                self.check(row, "parts", True)
        for row in ([0], [0, 1], [0, GREATEST], [1, 2], [3, 6], [2, 3, 5], [1, GREATEST - 1, GREATEST],
                    [GREATEST // 2, GREATEST], PARTS_20[:19] + [38], list(range(20))):
            with self.subTest(row=row):
                self.check(row, "parts", False)

    def test_only_breaches_there_are(self):
        self.assertEqual(breach([0, 1, 2], "even"), (0, 1, 2))
        self.assertEqual(breach([1, 5, 8, 11], "even"), (5, 8, 11))
        self.assertEqual(breach([0, 1, 2], "sums"), (0, 2, 1, 1))
        self.assertEqual(breach([0, 1, 5, 6], "sums"), (0, 6, 1, 5))
        self.assertEqual(breach([0], "parts"), (0, 0, 0))
        self.assertEqual(breach([3, 6], "parts"), (3, 3, 6))
        self.assertEqual(breach([3, 4, 7], "parts"), (3, 4, 7))

    def test_all_small_rows(self):
        for rule in RULES:
            for row in small_rows():
                with self.subTest(rule=rule, row=row):
                    self.check(row, rule, plain_keeps(row, rule))

    def test_large_rows(self):
        for rule in RULES:
            for row in large_rows():
                with self.subTest(rule=rule, row=row):
                    self.check(row, rule, plain_keeps(row, rule))

    def test_full_rows_keep_their_rules(self):
        for rule in RULES:
            with self.subTest(rule=rule):
                self.assertEqual(len(FULL[rule]), 20)
                self.check(FULL[rule], rule, True)

    def test_argument_names(self):
        self.assertIs(keeps(row=[0, 1], rule="even"), True)
        self.assertIsNone(breach(row=[0, 1], rule="even"))


class Refusals(unittest.TestCase):
    def refused(self, refusal, row, rule):
        for asked in (keeps, breach):
            with self.subTest(asked=asked.__name__, row=row, rule=rule):
                with self.assertRaises(refusal) as caught:
                    asked(row, rule)
                self.assertIs(type(caught.exception), refusal)

    def test_no_rule(self):
        for rule in WRONG_RULES:
            for row in ([], [0], [1, 2, 3], EVEN_20):
                self.refused(NoRule, row, rule)

    def test_no_row(self):
        for rule in RULES:
            for some in NO_ROWS:
                self.refused(NoRow, some, rule)

    def test_no_rule_goes_ahead_of_no_row(self):
        for rule in WRONG_RULES:
            for some in NO_ROWS:
                self.refused(NoRule, some, rule)


class HandedIn(unittest.TestCase):
    def test_nothing_is_changed(self):
        for rule in RULES:
            for row in large_rows() + [[], [0, 1, 2], [1, 2, 3]]:
                before = list(row)
                is_row(row)
                keeps(row, rule)
                breach(row, rule)
                with self.subTest(rule=rule, row=before):
                    self.assertEqual(row, before)

    def test_a_refused_list_is_not_changed(self):
        for some in NO_ROWS:
            before = list(some)
            is_row(some)
            with self.assertRaises(NoRow):
                breach(some, "even")
            with self.subTest(some=before):
                self.assertEqual(some, before)

    def test_nothing_is_kept(self):
        row = [0, 1, 3]
        self.assertIs(keeps(row, "even"), True)
        row[2] = 2
        self.assertIs(keeps(row, "even"), False)
        self.assertEqual(breach(row, "even"), (0, 1, 2))
        row[2] = 3
        self.assertIs(keeps(row, "even"), True)
        row[2] = 1
        self.assertIs(is_row(row), False)


if __name__ == "__main__":
    unittest.main()
