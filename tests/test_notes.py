import re
import unittest
from itertools import product

from sliderings.errors import NoRow, NotRead
from sliderings.notes import read, shown
from sliderings.rules import is_row
from tests.helper import EVEN_20, GREATEST, NO_ROWS, PARTS_20, SUMS_20, THREES_20, large_rows, small_rows

# Each sign that a text that is handed in may have.
SIGNS = ["\t", "\n"] + [chr(code) for code in range(32, 127) if chr(code) != "%"]

LONGEST = list(range(GREATEST - 19, GREATEST + 1))

NOT_READ = [
    " ", "  ", "\t", "\n", "-", "+", "_", ".", ",", "a", "~", "[]", "()",
    " 1", "1 ", " 1 2", "1 2 ", "1  2", "1   2", "  1", "1  ",
    "1\t2", "1\n2", "\t1", "1\t", "\n1", "1\n", "1 \n2", "1\n 2", "1 \t2", "1 2\n", "1\t 2",
    "00", "01", "007", "0 01", "1 02", "00 1", "01 2", "0000000000001", "0" * 300,
    "-1", "+1", "-0", "+0", "1 +2", "1 -2", "- 1", "+ 1", "--1", "-1 2",
    "one", "a 1", "1 a", "1a", "a1", "1e3", "1e2 500", "0x1", "0b1", "0o7", "x",
    "1_000", "_1", "1_", "1 2_0", "1_2 3",
    "1.0", "1.", ".5", "1,2", "1, 2", "[1, 2]", "[1]", "1;2", "1/2", "(1)", "'1'", "\"1\"", "None", "1j", "1L",
    "1 1", "0 0", "2 1", "1 3 2", "0 1 1", "10 9", "1 2 3 0", "9 10 9", "9 08",
    str(GREATEST + 1), f"0 {GREATEST + 1}", "9999999999999", f"{GREATEST} {GREATEST + 1}", f"{GREATEST} {GREATEST}",
    str(10 ** 13), str(10 ** 59), str(10 ** 60 - 1), "1" * 300, "9" * 300, "1" + "0" * 299,
    " " * 300, "\n" * 300, "1 " * 150, "-" * 300, "1" * 299 + " ",
    " ".join(str(number) for number in range(21)),
    " ".join(str(number) for number in range(60)),
    " ".join(str(number) for number in range(109)),
    " ".join(str(number) for number in EVEN_20 + [90]),
]

WRITTEN = re.compile("(?:0|[1-9][0-9]*)(?: (?:0|[1-9][0-9]*))*")


def plain_read(text):
    if text == "":
        return []
    if WRITTEN.fullmatch(text) is None:
        return None
    numbers = [int(word) for word in text.split()]
    rises = all(ahead < behind for ahead, behind in zip(numbers, numbers[1:]))
    return numbers if rises and len(numbers) <= 20 and numbers[-1] <= GREATEST else None


class Shown(unittest.TestCase):
    def test_known_texts(self):
        self.assertEqual(shown([]), "")
        self.assertEqual(shown([0]), "0")
        self.assertEqual(shown([7]), "7")
        self.assertEqual(shown([0, 1, 3]), "0 1 3")
        self.assertEqual(shown([9, 10, 100]), "9 10 100")
        self.assertEqual(shown([GREATEST]), "1000000000000")
        self.assertEqual(shown([0, GREATEST]), "0 1000000000000")
        self.assertEqual(shown(EVEN_20), "0 1 3 4 9 10 12 13 27 28 30 31 36 37 39 40 81 82 84 85")
        self.assertEqual(shown(PARTS_20), "1 3 5 7 9 11 13 15 17 19 21 23 25 27 29 31 33 35 37 39")

    def test_rows_that_keep_no_rule_are_written_too(self):
        self.assertEqual(shown(list(range(20))), "0 1 2 3 4 5 6 7 8 9 10 11 12 13 14 15 16 17 18 19")

    def test_kind(self):
        for row in ([], [0], LONGEST):
            with self.subTest(row=row):
                self.assertIs(type(shown(row)), str)

    def test_argument_name(self):
        self.assertEqual(shown(row=[1, 2]), "1 2")

    def test_nothing_handed_in_is_changed_or_kept(self):
        for row in small_rows() + large_rows():
            before = list(row)
            shown(row)
            with self.subTest(row=before):
                self.assertEqual(row, before)
        row = [1, 2]
        self.assertEqual(shown(row), "1 2")
        row[1] = 3
        self.assertEqual(shown(row), "1 3")

    def test_no_row(self):
        for some in NO_ROWS:
            before = list(some)
            with self.subTest(some=before):
                with self.assertRaises(NoRow) as caught:
                    shown(some)
                self.assertIs(type(caught.exception), NoRow)
                self.assertEqual(some, before)


class Read(unittest.TestCase):
    def refused(self, text):
        with self.assertRaises(NotRead) as caught:
            read(text)
        self.assertIs(type(caught.exception), NotRead)

    def check(self, text):
        right = plain_read(text)
        with self.subTest(text=text):
            if right is None:
                self.refused(text)
            else:
                self.assertEqual(read(text), right)

    def test_known_rows(self):
        self.assertEqual(read(""), [])
        self.assertEqual(read("0"), [0])
        self.assertEqual(read("7"), [7])
        self.assertEqual(read("10"), [10])
        self.assertEqual(read("0 1 3"), [0, 1, 3])
        self.assertEqual(read("9 10 100"), [9, 10, 100])
        self.assertEqual(read("1000000000000"), [GREATEST])
        self.assertEqual(read("0 999999999999 1000000000000"), [0, GREATEST - 1, GREATEST])
        self.assertEqual(read("0 1 3 4 9 10 12 13 27 28 30 31 36 37 39 40 81 82 84 85"), EVEN_20)

    def test_what_is_written_is_read_to_the_same_row(self):
        for row in small_rows() + large_rows() + [[], [0], [GREATEST], LONGEST, SUMS_20, THREES_20]:
            with self.subTest(row=row):
                told = read(shown(row))
                self.assertEqual(told, row)
                self.assertIs(type(told), list)
                self.assertTrue(all(type(number) is int for number in told))
                self.assertIs(is_row(told), True)

    def test_other_texts(self):
        for text in NOT_READ:
            with self.subTest(text=text):
                self.refused(text)

    def test_each_sign_by_itself(self):
        for sign in SIGNS:
            self.check(sign)

    def test_each_sign_in_each_place_of_a_text(self):
        for text in ("0", "5", "1 23", "0 10 200", "19 20"):
            for place in range(len(text) + 1):
                for sign in SIGNS:
                    self.check(text[:place] + sign + text[place:])
                    self.check(text[:place] + sign + text[place + 1:])

    def test_all_short_texts_of_some_signs(self):
        for length in range(5):
            for signs in product(" 0129\t\n+-_", repeat=length):
                self.check("".join(signs))

    def test_how_many_numbers(self):
        for many in range(61):
            self.check(" ".join(str(number) for number in range(many)))

    def test_how_many_figures(self):
        for many in range(1, 301):
            self.check("1" + "0" * (many - 1))
            self.check("9" * many)

    def test_argument_name(self):
        self.assertEqual(read(text="1 2"), [1, 2])

    def test_what_is_told_is_the_askers_own(self):
        for text in ("", "0", "0 1 3"):
            first = read(text)
            second = read(text)
            right = list(first)
            with self.subTest(text=text):
                self.assertIsNot(first, second)
                first.append(-1)
                self.assertEqual(second, right)
                self.assertEqual(read(text), right)


if __name__ == "__main__":
    unittest.main()
