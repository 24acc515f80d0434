import unittest
from collections import Counter
from itertools import combinations

from sliderings.errors import NoNumber, NoRow
from sliderings.images import differences, moved
from sliderings.rules import is_row, keeps
from tests.helper import (
    EVEN_20, FULL, GREATEST, NO_ROWS, SUMS_20, THREES_20, large_rows, plain_keeps, small_rows,
)

FEWER_THAN_ONE = (0, -1, -2, -GREATEST, -(10 ** 60 - 1))
MOST_FIGURES = 10 ** 60 - 1


def plain_image(row, by, times):
    return [sum([number] * times) + by for number in row]


class Moved(unittest.TestCase):
    def test_known_images(self):
        self.assertEqual(moved([0, 1, 3], 0, 1), [0, 1, 3])
        self.assertEqual(moved([0, 1, 3], 5, 1), [5, 6, 8])
        self.assertEqual(moved([0, 1, 3], 0, 2), [0, 2, 6])
        self.assertEqual(moved([5, 6, 8], -5, 1), [0, 1, 3])
        self.assertEqual(moved([7], 0, 1), [7])

    def test_first_taken_then_moved(self):
        self.assertEqual(moved([0, 1, 3], 5, 2), [5, 7, 11])
        self.assertEqual(moved([2, 3], -4, 2), [0, 2])
        self.assertEqual(moved([1, 2], 1, 10), [11, 21])

    def test_a_row_without_numbers(self):
        for by in (0, 1, -1, GREATEST, GREATEST + 1, -(GREATEST + 1), MOST_FIGURES, -MOST_FIGURES):
            for times in (1, 2, GREATEST + 1, MOST_FIGURES):
                with self.subTest(by=by, times=times):
                    told = moved([], by, times)
                    self.assertIs(type(told), list)
                    self.assertEqual(told, [])

    def test_small_rows(self):
        for row in small_rows():
            for by in (-7, -1, 0, 1, 9):
                for times in (1, 2, 3):
                    image = plain_image(row, by, times)
                    with self.subTest(row=row, by=by, times=times):
                        if row and image[0] < 0:
                            with self.assertRaises(NoNumber):
                                moved(row, by, times)
                        else:
                            self.assertEqual(moved(row, by, times), image)

    def test_rows_of_twenty_numbers(self):
        for row in (EVEN_20, SUMS_20, list(range(20))):
            for by in (0, 1, 10 ** 6):
                for times in (1, 2, 10 ** 6):
                    with self.subTest(row=row, by=by, times=times):
                        told = moved(row, by, times)
                        self.assertEqual(told, [times * number + by for number in row])
                        self.assertIs(is_row(told), True)

    def test_just_to_the_bounds(self):
        self.assertEqual(moved([0], 0, 1), [0])
        self.assertEqual(moved([3, 4], -3, 1), [0, 1])
        self.assertEqual(moved([3, 4], -6, 2), [0, 2])
        self.assertEqual(moved([GREATEST], 0, 1), [GREATEST])
        self.assertEqual(moved([GREATEST], -GREATEST, 1), [0])
        self.assertEqual(moved([0], GREATEST, 1), [GREATEST])
        self.assertEqual(moved([0, 1], 0, GREATEST), [0, GREATEST])
        self.assertEqual(moved([1, 2], GREATEST - 2, 1), [GREATEST - 1, GREATEST])
        self.assertEqual(moved([0, GREATEST // 2], 0, 2), [0, GREATEST])
        self.assertEqual(moved([0, GREATEST], 0, 1), [0, GREATEST])

    def test_on_the_way_a_number_may_be_beyond_the_bounds(self):
        self.assertEqual(moved([GREATEST], -GREATEST, 2), [GREATEST])
        self.assertEqual(moved([GREATEST], -2 * GREATEST, 2), [0])
        self.assertEqual(moved([GREATEST - 1, GREATEST], GREATEST - GREATEST ** 2, GREATEST), [0, GREATEST])
        self.assertEqual(moved([1], -GREATEST, GREATEST + 5), [5])

    def test_numbers_with_sixty_figures(self):
        self.assertEqual(moved([0], 7, MOST_FIGURES), [7])
        self.assertEqual(moved([1], -MOST_FIGURES, MOST_FIGURES), [0])
        self.assertEqual(moved([1], GREATEST - MOST_FIGURES, MOST_FIGURES), [GREATEST])
        self.assertEqual(moved([5], 3 - 5 * 10 ** 58, 10 ** 58), [3])
        self.assertEqual(moved([GREATEST], 17 - 10 ** 59, 10 ** 47), [17])

    def test_rows_by_even_and_sums_keep_their_rule(self):
        for rule in ("even", "sums"):
            for row in small_rows() + [FULL[rule], THREES_20[:15]]:
                if not plain_keeps(row, rule):
                    continue
                for by, times in ((0, 1), (4, 1), (0, 3), (5, 2)):
                    with self.subTest(rule=rule, row=row, by=by, times=times):
                        self.assertIs(keeps(moved(row, by, times), rule), True)

    def test_rows_by_parts_keep_it_where_they_are_taken_alone(self):
        for row in small_rows() + [FULL["parts"], THREES_20[:15]]:
            if not plain_keeps(row, "parts"):
                continue
            for times in (1, 2, 7):
                with self.subTest(row=row, times=times):
                    self.assertIs(keeps(moved(row, 0, times), "parts"), True)
        self.assertIs(keeps(moved([3, 4], -2, 1), "parts"), False)

    def test_argument_names(self):
        self.assertEqual(moved(row=[1, 2], by=1, times=10), [11, 21])

    def test_what_is_told_is_the_askers_own(self):
        for row in ([], [0], [0, 1, 3], EVEN_20):
            for by, times in ((0, 1), (3, 1), (0, 2), (1, 2)):
                before = list(row)
                told = moved(row, by, times)
                again = moved(row, by, times)
                right = list(told)
                with self.subTest(row=before, by=by, times=times):
                    self.assertIs(type(told), list)
                    self.assertIsNot(told, row)
                    self.assertIsNot(told, again)
                    told.append(-1)
                    self.assertEqual(row, before)
                    self.assertEqual(again, right)
                    self.assertEqual(moved(row, by, times), right)

    def test_nothing_handed_in_is_kept(self):
        row = [0, 1, 3]
        told = moved(row, 0, 1)
        row[2] = 2
        row.append(9)
        self.assertEqual(told, [0, 1, 3])
        self.assertEqual(moved(row, 0, 1), [0, 1, 2, 9])


class Differences(unittest.TestCase):
    def test_known_differences(self):
        self.assertEqual(differences([]), [])
        self.assertEqual(differences([0]), [])
        self.assertEqual(differences([GREATEST]), [])
        self.assertEqual(differences([2, 7]), [(5, 1)])
        self.assertEqual(differences([0, GREATEST]), [(GREATEST, 1)])
        self.assertEqual(differences([0, 1, 2]), [(1, 2), (2, 1)])
        self.assertEqual(differences([0, 1, 3]), [(1, 1), (2, 1), (3, 1)])
        self.assertEqual(differences([0, 1, 11, 12]), [(1, 2), (10, 1), (11, 2), (12, 1)])
        self.assertEqual(differences([0, 9, 10]), [(1, 1), (9, 1), (10, 1)])

    def test_twenty_numbers_one_apart(self):
        self.assertEqual(differences(list(range(20))), [(gap, 20 - gap) for gap in range(1, 20)])

    def test_all_small_and_large_rows(self):
        for row in small_rows() + large_rows():
            with self.subTest(row=row):
                counts = Counter(greater - lesser for lesser, greater in combinations(row, 2))
                self.assertEqual(differences(row), sorted(counts.items()))

    def test_kinds_and_order(self):
        for row in small_rows() + large_rows():
            told = differences(row)
            with self.subTest(row=row):
                self.assertIs(type(told), list)
                for pair in told:
                    self.assertIs(type(pair), tuple)
                    self.assertEqual([type(part) for part in pair], [int, int])
                    self.assertGreater(pair[0], 0)
                    self.assertGreater(pair[1], 0)
                self.assertTrue(all(ahead[0] < behind[0] for ahead, behind in zip(told, told[1:])))

    def test_all_counts_together_are_all_pairs(self):
        for row in small_rows() + large_rows():
            with self.subTest(row=row):
                self.assertEqual(sum(count for gap, count in differences(row)), len(row) * (len(row) - 1) // 2)

    def test_sums_is_kept_just_where_no_two_pairs_have_one_difference(self):
        for row in small_rows() + large_rows():
            with self.subTest(row=row):
                self.assertIs(keeps(row, "sums"), all(count == 1 for gap, count in differences(row)))

    def test_an_image_has_the_differences_so_many_times(self):
        for row in (EVEN_20, SUMS_20, [0, 1, 2, 5]):
            with self.subTest(row=row):
                self.assertEqual(differences(moved(row, 8, 3)), [(3 * gap, count) for gap, count in differences(row)])

    def test_argument_name(self):
        self.assertEqual(differences(row=[2, 7]), [(5, 1)])

    def test_what_is_told_is_the_askers_own(self):
        for row in ([], [4], [0, 1, 2], SUMS_20):
            told = differences(row)
            again = differences(row)
            right = list(told)
            with self.subTest(row=row):
                self.assertIsNot(told, again)
                told.append((0, 0))
                self.assertEqual(again, right)
                self.assertEqual(differences(row), right)

    def test_nothing_handed_in_is_changed_or_kept(self):
        for row in small_rows() + large_rows():
            before = list(row)
            differences(row)
            with self.subTest(row=before):
                self.assertEqual(row, before)
        row = [0, 1]
        self.assertEqual(differences(row), [(1, 1)])
        row.append(2)
        self.assertEqual(differences(row), [(1, 2), (2, 1)])


class Refusals(unittest.TestCase):
    def refused(self, refusal, asked, row, *others):
        before = list(row)
        with self.subTest(asked=asked.__name__, row=before, others=others):
            with self.assertRaises(refusal) as caught:
                asked(row, *others)
            self.assertIs(type(caught.exception), refusal)
            self.assertEqual(row, before)

    def test_no_row(self):
        for some in NO_ROWS:
            self.refused(NoRow, differences, some)
            for by, times in ((0, 1), (1, 1), (0, 2), (1, 3)):
                self.refused(NoRow, moved, some, by, times)

    def test_no_row_though_its_image_would_be_one(self):
        self.refused(NoRow, moved, [-1, 0, 1], 1, 1)
        self.refused(NoRow, moved, [GREATEST + 1], -1, 1)

    def test_taken_fewer_than_one_times(self):
        for row in ([], [0], [5], [0, 1, 3], EVEN_20, [GREATEST]):
            for times in FEWER_THAN_ONE:
                for by in (0, 5, -5, GREATEST):
                    self.refused(NoNumber, moved, row, by, times)

    def test_just_below_nought(self):
        self.refused(NoNumber, moved, [0], -1, 1)
        self.refused(NoNumber, moved, [0, 5, 9], -1, 1)
        self.refused(NoNumber, moved, [3, 4], -4, 1)
        self.refused(NoNumber, moved, [3, 4], -7, 2)
        self.refused(NoNumber, moved, [3], -7, 2)
        self.refused(NoNumber, moved, [0, GREATEST], -1, 1)
        self.refused(NoNumber, moved, [1], -MOST_FIGURES, MOST_FIGURES - 1)

    def test_just_above_the_greatest_number(self):
        self.refused(NoNumber, moved, [GREATEST], 1, 1)
        self.refused(NoNumber, moved, [0], GREATEST + 1, 1)
        self.refused(NoNumber, moved, [0, GREATEST], 1, 1)
        self.refused(NoNumber, moved, [1, 2], GREATEST - 1, 1)
        self.refused(NoNumber, moved, [0, 1], 0, GREATEST + 1)
        self.refused(NoNumber, moved, [0, 1], 1, GREATEST)
        self.refused(NoNumber, moved, [0, GREATEST // 2 + 1], 0, 2)
        self.refused(NoNumber, moved, [1], GREATEST + 1 - MOST_FIGURES, MOST_FIGURES)

    def test_far_beyond_the_bounds(self):
        for row in ([0], [1, 2], EVEN_20, [GREATEST]):
            self.refused(NoNumber, moved, row, MOST_FIGURES, 1)
            self.refused(NoNumber, moved, row, -MOST_FIGURES, 1)
            self.refused(NoNumber, moved, row, MOST_FIGURES, MOST_FIGURES)
        self.refused(NoNumber, moved, [0, 1], 0, MOST_FIGURES)
        self.refused(NoNumber, moved, [0, 1], -MOST_FIGURES, MOST_FIGURES)

    def test_no_row_goes_ahead_of_no_number(self):
        for some in NO_ROWS:
            for times in FEWER_THAN_ONE:
                self.refused(NoRow, moved, some, 0, times)
            for by in (-1, 1, GREATEST + 1, MOST_FIGURES, -MOST_FIGURES):
                self.refused(NoRow, moved, some, by, 1)


class HandedIn(unittest.TestCase):
    def test_nothing_is_changed_where_a_row_is_moved(self):
        for row in small_rows():
            before = list(row)
            moved(row, 3, 2)
            moved(row, 0, 1)
            with self.subTest(row=before):
                self.assertEqual(row, before)


if __name__ == "__main__":
    unittest.main()
