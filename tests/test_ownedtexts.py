"""[14.1] and [0.2] (g): owned changes written as texts and read."""

import copy
import re
import unittest

from helper import owned_rows, spoilt
from pastways.errors import NoText
from pastways.ownedtexts import owned_text, read_owned

PART = r"(=[1-9][0-9]?|[+-][a-z ]{1,8})"
LINE = re.compile(rf"[a-z]{{1,6}}: ({PART}(/{PART}){{0,11}})?")

# Owned changes with their writing.
WRITTEN = (
    ([], ""),
    ([("ann", (("keep", 3), ("drop", "ab"), ("put", "x y")))], "ann: =3/-ab/+x y\n"),
    ([("a", (("put", "a"),)), ("abcdef", (("keep", 1), ("put", " ")))], "a: +a\nabcdef: =1/+ \n"),
    ([("ann", ())], "ann: \n"),
    ([("z", ()), ("z", ()), ("az", (("drop", "z"), ("put", "z")))], "z: \nz: \naz: -z/+z\n"),
    # Changes are written as they stand, not by the form.
    ([("bob", (("put", "b"), ("drop", "a"), ("keep", 1), ("keep", 99)))], "bob: +b/-a/=1/=99\n"),
    ([("bob", (("put", "abcdefgh"),) * 12)], "bob: " + "/".join(["+abcdefgh"] * 12) + "\n"),
    ([("ann", (("keep", 1),))] * 20, "ann: =1\n" * 20),
)

NO_OWNED = (
    # Names of no letter, of more than 6, and with other signs.
    ": =1\n", ": \n", "abcdefg: =1\n", "Ann: =1\n", "a b: =1\n", " ann: =1\n", "ann : =1\n", "a1: =1\n", "a:b: =1\n",
    "a-b: =1\n", "=1: =1\n", "~: =1\n", "{: =1\n", "`: =1\n", "a_b: =1\n",
    # Nothing between, or not all of it, or more.
    "ann\n", "ann=1\n", "ann:\n", "ann:=1\n", "ann =1\n", "ann  =1\n", "ann:  =1\n", "ann: : =1\n", "ann;=1\n", "=1\n",
    "ann::=1\n", "ann:: =1\n", ":\n", " \n",
    # Without a line feed at the end, or with one that stands elsewhere.
    "ann: =1", "ann: ", "ann: =1\nbob: =1", "\n", "\n\n", "ann: =1\n\n", "\nann: =1\n", "ann: =1\n ", "ann:\n =1\n",
    "ann\n: =1\n", "ann: \n=1\n", "ann: =1\n\nbob: =1\n", "a",
    # What is no change.
    "ann: =0\n", "ann: =01\n", "ann: =100\n", "ann: +\n", "ann: +abcdefghi\n", "ann: +A\n", "ann: /\n", "ann: =1/\n",
    "ann: /=1\n", "ann: =1//=1\n", "ann: =1 \n", "ann: x\n", "ann: bob: =1\n", "ann: =1: \n", "ann: +a: \n",
    "ann: " + "/".join(["=1"] * 13) + "\n", "ann: =1\nbob: =0\n", "ann: =0\nbob: =1\n",
)


class OwnedTextTest(unittest.TestCase):
    def test_written(self):
        for rows, text in WRITTEN:
            with self.subTest(text=text):
                handed = copy.deepcopy(rows)
                self.assertEqual(owned_text(rows), text)
                self.assertEqual(rows, handed)

    def test_read(self):
        for rows, text in WRITTEN:
            with self.subTest(text=text):
                told = read_owned(text)
                self.assertIsInstance(told, list)
                self.assertTrue(all(isinstance(row, tuple) for row in told))
                self.assertEqual(told, rows)

    def test_no_owned_changes(self):
        for text in NO_OWNED:
            with self.subTest(text=text):
                self.assertRaises(NoText, read_owned, text)

    def test_names_of_all_letters_and_lengths(self):
        for letter in "abcdefghijklmnopqrstuvwxyz":
            for many in range(1, 7):
                self.assertEqual(read_owned(letter * many + ": =1\n"), [(letter * many, (("keep", 1),))])
            self.assertRaises(NoText, read_owned, letter * 7 + ": =1\n")

    def test_more_parts_and_signs(self):
        self.assertEqual(owned_text([("ann", (("keep", 150), ("put", "abcdefghij")) * 7)]),
                         "ann: " + "/".join(["=150/+abcdefghij"] * 7) + "\n")

    def test_told_lists_are_new_ones(self):
        for rows, text in WRITTEN:
            read_owned(text).append(None)
            read_owned(text).clear()
            self.assertEqual(read_owned(text), rows)


class OwnedTextLawsTest(unittest.TestCase):
    def owned_or_none(self, text):
        """What is read must be that whose writing the text is, and is refused just if it is none's."""
        lines = text.split("\n")
        if lines[-1] == "" and all(LINE.fullmatch(line) for line in lines[:-1]):
            self.assertEqual(owned_text(read_owned(text)), text)
        else:
            self.assertRaises(NoText, read_owned, text)

    def test_small_rows_read_back(self):
        for many in (0, 1, 2):
            for rows in owned_rows("ab", many, ("p", "qrstuv")):
                self.assertEqual(read_owned(owned_text(rows)), rows)

    def test_no_two_small_rows_have_one_writing(self):
        told = [rows for many in (0, 1, 2) for rows in owned_rows("ab", many, ("p", "pq"))]
        self.assertEqual(len({owned_text(rows) for rows in told}), len({tuple(rows) for rows in told}))

    def test_spoilt_in_one_sign(self):
        texts = [text for rows, text in WRITTEN[:-1]]
        texts += [owned_text(rows) for rows in owned_rows("ab", 1, ("p", "qrstuv"))]
        for text in texts:
            for other in spoilt(text):
                self.owned_or_none(other)

    def test_wrong_texts_spoilt_in_one_sign(self):
        for text in NO_OWNED:
            if len(text) < 12:
                for other in spoilt(text):
                    self.owned_or_none(other)


if __name__ == "__main__":
    unittest.main()
