import unittest

from sliderings.errors import Broken, NoNumber, NoRow, NoRule, NoSize
from sliderings.growing import fell, grown
from tests.helper import (
    EVEN_20, FULL, GREATEST, NO_ROWS, PARTS_20, RULES, SUMS_20, THREES_20, WRONG_RULES,
    is_breach, plain_grown, plain_keeps, small_rows,
)

BROKEN = {
    "even": [[0, 1, 2], [1, 2, 4, 7], list(range(20)), [0, GREATEST // 2, GREATEST]],
    "sums": [[0, 1, 2], [0, 1, 3, 4], list(range(20)), [0, 1, GREATEST - 1, GREATEST]],
    "parts": [[0], [0, 5], [1, 2], [2, 3, 5], list(range(1, 21)), [GREATEST // 2, GREATEST]],
}
WRONG_SIZES = (-(10 ** 59), -1, 21, 22, 60, 10 ** 60 - 1)
WRONG_NUMBERS = (-(10 ** 59), -1, GREATEST + 1, 10 ** 60 - 1)

# Marks with all differences unlike, as close together as can be: many numbers above them fall.
CLOSE_MARKS = [0, 1, 6, 25, 32, 72, 100, 108, 120, 130, 153, 169, 187, 190, 204, 231, 233, 242, 246]


class Growing(unittest.TestCase):
    def test_known_rows_from_a_row_without_numbers(self):
        for rule in RULES:
            for more in range(21):
                with self.subTest(rule=rule, more=more):
                    self.assertEqual(grown([], rule, more), FULL[rule][:more])

    def test_by_even_no_figure_is_two_in_base_three(self):
        without_two = [int(bin(number)[2:], 3) for number in range(20)]
        for more in range(21):
            with self.subTest(more=more):
                self.assertEqual(grown([], "even", more), without_two[:more])

    def test_known_rows_from_others(self):
        self.assertEqual(grown([0, 2], "even", 4), [0, 2, 3, 5, 9, 11])
        self.assertEqual(grown([5], "even", 3), [5, 6, 8, 9])
        self.assertEqual(grown([1], "sums", 5), [1, 2, 4, 8, 13, 21])
        self.assertEqual(grown([0, 4], "sums", 3), [0, 4, 5, 7, 13])
        self.assertEqual(grown([2], "parts", 4), [2, 3, 7, 8, 12])
        self.assertEqual(grown([1, 5], "parts", 3), [1, 5, 7, 9, 11])

    def test_small_rows_grow_by_the_least_number(self):
        for rule in RULES:
            for row in small_rows():
                if not plain_keeps(row, rule):
                    continue
                for more in (0, 1, 3):
                    with self.subTest(rule=rule, row=row, more=more):
                        self.assertEqual(grown(row, rule, more), plain_grown(row, rule, more))

    def test_rows_grow_up_to_twenty_numbers(self):
        for rule in RULES:
            for row in ([3], [1, 4], [2, 11, 12], [100, 1000], FULL[rule][:19], FULL[rule][:10]):
                with self.subTest(rule=rule, row=row):
                    more = 20 - len(row)
                    self.assertEqual(grown(row, rule, more), plain_grown(row, rule, more))

    def test_by_sums_close_marks_keep_numbers_falling(self):
        self.assertEqual(grown(CLOSE_MARKS, "sums", 1), plain_grown(CLOSE_MARKS, "sums", 1))

    def test_rows_with_numbers_far_apart(self):
        for rule in RULES:
            for row in (THREES_20[:19], [1, GREATEST - 100], [7, 10 ** 6, 10 ** 11]):
                with self.subTest(rule=rule, row=row):
                    self.assertEqual(grown(row, rule, 1), plain_grown(row, rule, 1))

    def test_growing_goes_on_from_where_it_was(self):
        for rule in RULES:
            for more in range(20):
                with self.subTest(rule=rule, more=more):
                    self.assertEqual(grown(grown([], rule, more), rule, 20 - more), grown([], rule, 20))

    def test_by_nothing(self):
        for rule in RULES:
            for row in ([], [3], [GREATEST], FULL[rule], THREES_20):
                with self.subTest(rule=rule, row=row):
                    told = grown(row, rule, 0)
                    self.assertIs(type(told), list)
                    self.assertEqual(told, row)
                    self.assertIsNot(told, row)

    def test_up_to_the_greatest_number(self):
        for rule in RULES:
            with self.subTest(rule=rule):
                self.assertEqual(grown([GREATEST - 1], rule, 1), [GREATEST - 1, GREATEST])
                self.assertEqual(grown([GREATEST], rule, 0), [GREATEST])

    def test_argument_names(self):
        self.assertEqual(grown(row=[0], rule="even", more=1), [0, 1])

    def test_what_is_told_is_the_askers_own(self):
        for rule in RULES:
            for row in ([], [3], FULL[rule][:5]):
                for more in (0, 2):
                    with self.subTest(rule=rule, row=row, more=more):
                        before = list(row)
                        told = grown(row, rule, more)
                        right = list(told)
                        again = grown(row, rule, more)
                        self.assertIsNot(told, again)
                        told.append(-1)
                        self.assertEqual(row, before)
                        self.assertEqual(again, right)
                        self.assertEqual(grown(row, rule, more), right)

    def test_nothing_handed_in_is_changed_or_kept(self):
        for rule in RULES:
            row = [3]
            told = grown(row, rule, 5)
            self.assertEqual(row, [3])
            right = list(told)
            row[0] = 4
            row.append(100)
            with self.subTest(rule=rule):
                self.assertEqual(told, right)
                self.assertEqual(grown(row, rule, 1), plain_grown([4, 100], rule, 1))


class Fell(unittest.TestCase):
    def check(self, row, rule, number, kept):
        told = fell(row, rule, number)
        if kept:
            self.assertIsNone(told)
        else:
            self.assertTrue(is_breach(told, row + [number], rule), told)
            self.assertIn(number, told)

    def test_only_breaches_there_are(self):
        self.assertEqual(fell([0, 1], "even", 2), (0, 1, 2))
        self.assertEqual(fell([0, 4], "even", 2), (0, 2, 4))
        self.assertEqual(fell([3, 5], "even", 1), (1, 3, 5))
        self.assertEqual(fell([0, 1], "sums", 2), (0, 2, 1, 1))
        self.assertEqual(fell([0, 1, 5], "sums", 6), (0, 6, 1, 5))
        self.assertEqual(fell([0, 1, 6], "sums", 5), (0, 6, 1, 5))
        self.assertEqual(fell([0, 4], "sums", 2), (0, 4, 2, 2))
        self.assertEqual(fell([], "parts", 0), (0, 0, 0))
        self.assertEqual(fell([3, 10], "parts", 7), (3, 7, 10))
        self.assertEqual(fell([3, 10], "parts", 5), (5, 5, 10))
        self.assertEqual(fell([3, 10], "parts", 13), (3, 10, 13))
        self.assertEqual(fell([3], "parts", 6), (3, 3, 6))

    def test_a_number_that_stands_in_the_row(self):
        for rule in RULES:
            for row in ([7], FULL[rule], THREES_20, [1, GREATEST]):
                for number in row:
                    with self.subTest(rule=rule, row=row, number=number):
                        self.assertIsNone(fell(row, rule, number))

    def test_a_number_that_can_be_put_in(self):
        for rule in RULES:
            for number in (10, 101, 141, 190, 500, GREATEST):
                with self.subTest(rule=rule, number=number):
                    self.assertIsNone(fell([100, 130, 180], rule, number))

    def test_a_full_row_and_a_number_that_can_be_put_in(self):
        self.assertIsNone(fell([number + 1000 for number in EVEN_20], "even", 0))
        self.assertIsNone(fell(EVEN_20, "even", GREATEST))
        self.assertIsNone(fell([number + 1000 for number in SUMS_20], "sums", 0))
        self.assertIsNone(fell(SUMS_20, "sums", GREATEST))
        self.assertIsNone(fell(list(range(21, 61, 2)), "parts", 1001))
        self.assertIsNone(fell(list(range(21, 61, 2)), "parts", 1))
        self.assertIsNone(fell(PARTS_20, "parts", 41))
        for rule in RULES:
            for number in (1, 730, 10 ** 6, GREATEST):
                with self.subTest(rule=rule, number=number):
                    self.assertIsNone(fell(THREES_20, rule, number))

    def test_a_full_row_and_a_number_that_cannot(self):
        asked = [
            ([number + 10 for number in EVEN_20], "even", 9),
            (EVEN_20, "even", 2),
            (EVEN_20, "even", 83),
            (EVEN_20, "even", 86),
            ([number + 10 for number in SUMS_20], "sums", 9),
            (SUMS_20, "sums", 2),
            (SUMS_20, "sums", 473),
            (SUMS_20, "sums", 475),
            (THREES_20, "sums", (3 ** 6 + 3 ** 7) // 2),
            (PARTS_20, "parts", 0),
            (PARTS_20, "parts", 20),
            (PARTS_20, "parts", 78),
            (THREES_20, "parts", 2 * 3 ** 24),
            (THREES_20, "parts", 3 ** 25 - 3 ** 24),
        ]
        for row, rule, number in asked:
            with self.subTest(row=row, rule=rule, number=number):
                self.assertEqual(len(row), 20)
                self.check(row, rule, number, False)

    def test_each_number_near_a_full_row(self):
        for rule in RULES:
            for shift in (0, 40):
                row = [number + shift for number in FULL[rule]]
                if not plain_keeps(row, rule):
                    continue
                for number in range(2 * row[-1] + 5):
                    with self.subTest(rule=rule, row=row, number=number):
                        self.check(row, rule, number, number in row or plain_keeps(row + [number], rule))

    def test_each_number_near_each_small_row(self):
        for rule in RULES:
            for row in small_rows():
                if not plain_keeps(row, rule):
                    continue
                for number in range(24):
                    with self.subTest(rule=rule, row=row, number=number):
                        self.check(row, rule, number, number in row or plain_keeps(row + [number], rule))

    def test_numbers_far_apart(self):
        half = GREATEST // 2
        self.assertEqual(fell([0, GREATEST], "even", half), (0, half, GREATEST))
        self.assertEqual(fell([0, half], "even", GREATEST), (0, half, GREATEST))
        self.assertEqual(fell([half, GREATEST], "even", 0), (0, half, GREATEST))
        self.assertIsNone(fell([0, GREATEST], "even", half + 1))
        self.assertEqual(fell([0, 1, GREATEST - 1], "sums", GREATEST), (0, GREATEST, 1, GREATEST - 1))
        self.assertIsNone(fell([0, 1, GREATEST - 2], "sums", GREATEST))
        self.assertEqual(fell([half], "parts", GREATEST), (half, half, GREATEST))
        self.assertIsNone(fell([half], "parts", GREATEST - 1))

    def test_a_row_without_numbers(self):
        for number in (0, 1, 2, GREATEST):
            self.assertIsNone(fell([], "even", number))
            self.assertIsNone(fell([], "sums", number))
            self.check([], "parts", number, number > 0)

    def test_numbers_that_a_row_grew_past_fell(self):
        for rule in RULES:
            row = grown([], rule, 20)
            for number in range(row[-1]):
                if number not in row:
                    with self.subTest(rule=rule, number=number):
                        below = [one for one in row if one < number]
                        self.check(below, rule, number, False)

    def test_argument_names(self):
        self.assertEqual(fell(row=[0, 1], rule="even", number=2), (0, 1, 2))

    def test_nothing_handed_in_is_changed_or_kept(self):
        for rule in RULES:
            for number in (0, 2, 3, 77, GREATEST):
                row = list(FULL[rule])
                fell(row, rule, number)
                with self.subTest(rule=rule, number=number):
                    self.assertEqual(row, FULL[rule])
        row = [0, 1]
        self.assertEqual(fell(row, "even", 2), (0, 1, 2))
        row[1] = 3
        self.assertIsNone(fell(row, "even", 2))


class Refusals(unittest.TestCase):
    def refused(self, refusal, asked, row, rule, last):
        before = list(row)
        with self.subTest(asked=asked.__name__, row=before, rule=rule, last=last):
            with self.assertRaises(refusal) as caught:
                asked(row, rule, last)
            self.assertIs(type(caught.exception), refusal)
            self.assertEqual(row, before)

    def test_no_rule(self):
        for rule in WRONG_RULES:
            for row in ([], [1], [0, 1, 2]):
                for last in (0, 1):
                    self.refused(NoRule, grown, row, rule, last)
                    self.refused(NoRule, fell, row, rule, last)

    def test_no_row(self):
        for rule in RULES:
            for some in NO_ROWS:
                for last in (0, 1):
                    self.refused(NoRow, grown, some, rule, last)
                    self.refused(NoRow, fell, some, rule, last)

    def test_broken(self):
        for rule in RULES:
            for row in BROKEN[rule]:
                self.refused(Broken, fell, row, rule, row[0])
                self.refused(Broken, fell, row, rule, 50)
                self.refused(Broken, fell, row, rule, GREATEST)
                self.refused(Broken, grown, row, rule, 0)
                if len(row) < 20:
                    self.refused(Broken, grown, row, rule, 1)

    def test_no_size(self):
        for rule in RULES:
            for row in ([], [1], FULL[rule][:19], FULL[rule]):
                for more in WRONG_SIZES + (21 - len(row),):
                    self.refused(NoSize, grown, row, rule, more)

    def test_a_row_that_would_grow_above_the_greatest_number(self):
        for rule in RULES:
            self.refused(NoNumber, grown, [GREATEST], rule, 1)
            self.refused(NoNumber, grown, [GREATEST - 1], rule, 2)
            self.refused(NoNumber, grown, [3, GREATEST], rule, 18)
        self.refused(NoNumber, grown, [GREATEST - 40], "even", 19)
        self.refused(NoNumber, grown, [GREATEST - 40], "sums", 19)
        self.refused(NoNumber, grown, [GREATEST - 2, GREATEST - 1], "even", 1)
        self.refused(NoNumber, grown, [GREATEST - 2, GREATEST - 1], "sums", 1)
        self.refused(NoNumber, grown, [GREATEST // 2, GREATEST - 1], "parts", 1)

    def test_a_number_that_cannot_have_fallen(self):
        for rule in RULES:
            for row in ([], [1], [GREATEST], FULL[rule]):
                for number in WRONG_NUMBERS:
                    self.refused(NoNumber, fell, row, rule, number)

    def test_no_rule_goes_ahead_of_all(self):
        for rule in WRONG_RULES:
            for some in NO_ROWS + [[0, 1, 2], list(range(20)), [GREATEST]]:
                for last in (0, 1, -1, 21, GREATEST + 1):
                    self.refused(NoRule, grown, some, rule, last)
                    self.refused(NoRule, fell, some, rule, last)

    def test_no_row_goes_ahead_of_broken_size_and_number(self):
        for rule in RULES:
            for some in NO_ROWS + [[2, 1, 0], [0, 1, 2, 2]]:
                for more in WRONG_SIZES:
                    self.refused(NoRow, grown, some, rule, more)
                for number in WRONG_NUMBERS:
                    self.refused(NoRow, fell, some, rule, number)

    def test_broken_goes_ahead_of_size_and_number(self):
        for rule in RULES:
            for row in BROKEN[rule]:
                for more in WRONG_SIZES:
                    self.refused(Broken, grown, row, rule, more)
                for number in WRONG_NUMBERS:
                    self.refused(Broken, fell, row, rule, number)
        self.refused(Broken, grown, [0, GREATEST // 2, GREATEST], "even", 1)
        self.refused(Broken, grown, [0, 1, GREATEST - 1, GREATEST], "sums", 1)
        self.refused(Broken, grown, [GREATEST // 2, GREATEST], "parts", 1)

    def test_size_goes_ahead_of_number(self):
        for rule in RULES:
            for more in WRONG_SIZES + (20,):
                self.refused(NoSize, grown, [GREATEST], rule, more)


if __name__ == "__main__":
    unittest.main()
