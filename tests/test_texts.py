"""[10.1], [10.2] and [0.2] (g): changes and rows of them written as texts and read."""

import re
import unittest

from helper import WRITTEN_SIGNS, small_changes, spoilt
from pastways.changes import is_change
from pastways.errors import NoText
from pastways.texts import change_text, read_change, read_rows, rows_text

PART = r"(=[1-9][0-9]?|[+-][a-z ]{1,8})"
WRITING = re.compile(rf"({PART}(/{PART}){{0,11}})?")

# Each change with its writing.
WRITTEN = (
    ((("keep", 3), ("drop", "ab"), ("put", "x y")), "=3/-ab/+x y"),
    ((), ""),
    ((("keep", 1),), "=1"),
    ((("keep", 10),), "=10"),
    ((("keep", 99),), "=99"),
    ((("put", "a"),), "+a"),
    ((("drop", "abcdefgh"),), "-abcdefgh"),
    ((("put", " "),), "+ "),
    ((("put", "        "),), "+        "),
    ((("drop", "az"), ("put", " z")), "-az/+ z"),
    # Parts are written as they stand, not by the form.
    ((("put", "a"), ("drop", "b"), ("keep", 1), ("keep", 2)), "+a/-b/=1/=2"),
    ((("keep", 1),) * 12, "/".join(["=1"] * 12)),
    ((("put", "abcdefgh"), ("drop", "stuvwxyz")) * 6, "/".join(["+abcdefgh/-stuvwxyz"] * 6)),
)

# Texts that are the writing of no change.
NO_CHANGE = (
    "=0", "=00", "=01", "=099", "=100", "=101", "=999", "=1000", "=" + "1" * 5000, "=", "=-1", "=+1", "= 1", "=1 ",
    "=1_0", "=a", "=1a", "=1.0", "==1", "1", "1=", " =1",
    "+", "-", "+abcdefghi", "-abcdefghi", "+         ", "+A", "-Z", "+a1", "+1", "+a-b", "+a+b", "++a", "-+a", "+a=1",
    "+a~", "+{", "+`", "+a_b", "+a.b", "a", " ", "~", "ab", "*a", "_a", ":a",
    "/", "//", "=1/", "/=1", "/=1/", "=1//=1", "=1//", "+a/", "/+a", "+a//-b", "=1/ /=1", "=1 /=1", "=1/ =1", "=1\\=1",
    "\n", "=1\n", "\n=1", "+a\n", "+\n", "=1\n/=1", "=1/\n", "=1/=0", "=0/=1", "=1/+", "+/=1",
    "/".join(["=1"] * 13), "/".join(["+a"] * 40), "=1" + "/" * 12,
)

# Each list of changes with its writing.
ROWS = (
    ([], ""),
    ([()], "\n"),
    ([(), ()], "\n\n"),
    ([(("keep", 3),)], "=3\n"),
    ([(("keep", 3), ("drop", "ab"), ("put", "x y")), (), (("put", "a"), ("drop", "b"))], "=3/-ab/+x y\n\n+a/-b\n"),
    ([(("put", "a "),), (("put", " a"),)], "+a \n+ a\n"),
    ([(("keep", 1),)] * 30, "=1\n" * 30),
)

NO_ROWS = ("=1", "=1\n=2", "\n=1", "=1\n\n=2", "+a\n ", "=0\n", "=1\n=0\n", "=0\n=1\n", "/\n", "=1/\n", "=1\n/=1\n", " \n",
           "=1\r", "=1\n\n\n+", "=100\n", "+abcdefghi\n", "/".join(["=1"] * 13) + "\n", "a\n")


class ChangeTextTest(unittest.TestCase):
    def test_written(self):
        for change, text in WRITTEN:
            with self.subTest(change=change):
                self.assertEqual(change_text(change), text)

    def test_more_parts_and_signs(self):
        self.assertEqual(change_text((("keep", 150), ("put", "abcdefghij")) * 7), "/".join(["=150/+abcdefghij"] * 7))

    def test_read(self):
        for change, text in WRITTEN:
            with self.subTest(text=text):
                self.assertEqual(read_change(text), change)
                self.assertTrue(is_change(read_change(text)))

    def test_no_change(self):
        for text in NO_CHANGE:
            with self.subTest(text=text):
                self.assertRaises(NoText, read_change, text)

    def test_no_other_digits(self):
        for text in ("=\u00b2", "=\u0663", "=\uff11", "+\u00e9", "+\u00df"):
            with self.subTest(text=text):
                self.assertRaises(NoText, read_change, text)

    def test_all_numbers(self):
        for many in range(-3, 130):
            if 1 <= many <= 99:
                self.assertEqual(read_change(f"={many}"), (("keep", many),))
            else:
                self.assertRaises(NoText, read_change, f"={many}")

    def test_each_sign(self):
        for mark, word in (("+", "put"), ("-", "drop")):
            for sign in WRITTEN_SIGNS:
                if sign in "abcdefghijklmnopqrstuvwxyz ":
                    self.assertEqual(read_change(mark + sign), ((word, sign),))
                else:
                    self.assertRaises(NoText, read_change, mark + sign)


class RowsTextTest(unittest.TestCase):
    def test_written(self):
        for rows, text in ROWS:
            with self.subTest(text=text):
                handed = list(rows)
                self.assertEqual(rows_text(rows), text)
                self.assertEqual(rows, handed)

    def test_read(self):
        for rows, text in ROWS:
            with self.subTest(text=text):
                told = read_rows(text)
                self.assertIsInstance(told, list)
                self.assertEqual(told, rows)

    def test_no_rows(self):
        for text in NO_ROWS:
            with self.subTest(text=text):
                self.assertRaises(NoText, read_rows, text)

    def test_more_parts_and_signs(self):
        self.assertEqual(rows_text([(("keep", 1),) * 13, (("keep", 100),)]), "/".join(["=1"] * 13) + "\n=100\n")

    def test_told_lists_are_new_ones(self):
        read_rows("=1\n").append(None)
        self.assertEqual(read_rows("=1\n"), [(("keep", 1),)])
        read_rows("").append(None)
        self.assertEqual(read_rows(""), [])


class TextLawsTest(unittest.TestCase):
    def change_or_none(self, text):
        """What is read must be that whose writing the text is, and is refused just if it is none's."""
        if WRITING.fullmatch(text):
            told = read_change(text)
            self.assertTrue(is_change(told), text)
            self.assertEqual(change_text(told), text)
        else:
            self.assertRaises(NoText, read_change, text)

    def rows_or_none(self, text):
        lines = text.split("\n")
        if lines[-1] == "" and all(WRITING.fullmatch(line) for line in lines):
            told = read_rows(text)
            self.assertTrue(all(is_change(change) for change in told), text)
            self.assertEqual(rows_text(told), text)
        else:
            self.assertRaises(NoText, read_rows, text)

    def test_small_changes_read_back(self):
        for change in small_changes(4):
            self.assertEqual(read_change(change_text(change)), change)
        rows = small_changes(3)
        self.assertEqual(read_rows(rows_text(rows)), rows)

    def test_no_two_small_changes_have_one_writing(self):
        changes = small_changes(4)
        self.assertEqual(len({change_text(change) for change in changes}), len(changes))

    def test_changes_spoilt_in_one_sign(self):
        for text in [change_text(change) for change in small_changes(2)] + [text for change, text in WRITTEN]:
            for other in spoilt(text):
                self.change_or_none(other)

    def test_rows_spoilt_in_one_sign(self):
        for rows, text in ROWS[:-1]:
            for other in spoilt(text):
                self.rows_or_none(other)

    def test_all_short_texts(self):
        for first in [""] + WRITTEN_SIGNS:
            for second in WRITTEN_SIGNS:
                self.change_or_none(first + second)
                self.rows_or_none(first + second)
        for text in NO_ROWS + NO_CHANGE:
            self.rows_or_none(text)


if __name__ == "__main__":
    unittest.main()
