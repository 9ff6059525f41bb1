"""[11.1] and [0.2] (h): who put which sign."""

import copy
import unittest

from helper import owned_rows, signs_of
from pastways.doing import nothing
from pastways.errors import NoFit
from pastways.owners import lost, owners, shares

# Of abc they make xabc, xac, xaycz, aycz.
ROWS = [("bob", (("put", "x"), ("keep", 3))), ("ann", (("keep", 2), ("drop", "b"), ("keep", 1))),
        ("ann", (("keep", 2), ("put", "y"), ("keep", 1), ("put", "z"))), ("cy", (("drop", "x"), ("keep", 4)))]


class OwnersTest(unittest.TestCase):
    def told(self, text, rows, names, left, gone):
        with self.subTest(text=text, rows=rows):
            handed = copy.deepcopy(rows)
            self.assertEqual(owners(text, rows), names)
            self.assertEqual(shares(text, rows), left)
            self.assertEqual(lost(text, rows), gone)
            self.assertEqual(rows, handed)

    def test_no_owned_changes(self):
        self.told("", [], [], [], [])
        self.told("a b", [], [None, None, None], [], [])

    def test_ordinary(self):
        self.told("abc", ROWS, [None, "ann", None, "ann"], [("ann", 2)], [("bob", 1)])
        self.told("abc", ROWS[:3], ["bob", None, "ann", None, "ann"], [("ann", 2), ("bob", 1)], [])

    def test_one_own_alone(self):
        self.told("", [("ann", (("put", "ab"),)), ("ann", (("keep", 1), ("put", "c"), ("drop", "b")))],
                  ["ann", "ann"], [("ann", 2)], [("ann", 1)])

    def test_a_sign_that_stood_there_at_first(self):
        self.told("ab", [("ann", (("drop", "a"), ("keep", 1)))], [None], [], [])
        self.told("ab", [("ann", nothing(2))], [None, None], [], [])
        # It counts as lost by none.
        self.told("ab", [("ann", (("drop", "ab"),))], [], [], [])

    def test_a_sign_that_was_put_and_dropped_later(self):
        self.told("", [("ann", (("put", "a"),)), ("bob", (("drop", "a"),))], [], [], [("ann", 1)])
        self.told("", [("ann", (("put", "aba"),)), ("bob", (("keep", 1), ("drop", "b"), ("keep", 1)))],
                  ["ann", "ann"], [("ann", 2)], [("ann", 1)])

    def test_a_sign_that_is_dropped_and_put_again_by_another(self):
        self.told("a", [("bob", (("drop", "a"), ("put", "a")))], ["bob"], [("bob", 1)], [])
        self.told("a", [("bob", (("put", "a"), ("drop", "a")))], ["bob"], [("bob", 1)], [])
        self.told("", [("ann", (("put", "a"),)), ("bob", (("drop", "a"), ("put", "a")))],
                  ["bob"], [("bob", 1)], [("ann", 1)])
        self.told("", [("ann", (("put", "a"),)), ("bob", (("drop", "a"),)), ("ann", (("put", "a"),))],
                  ["ann"], [("ann", 1)], [("ann", 1)])

    def test_signs_keep_their_owner_as_long_as_they_stand(self):
        self.told("q", [("ann", (("keep", 1), ("put", "a"))), ("bob", (("put", "bb"), ("keep", 2))),
                        ("cy", (("keep", 3), ("put", "c"), ("keep", 1))), ("bob", (("drop", "b"), ("keep", 4)))],
                  ["bob", None, "cy", "ann"], [("ann", 1), ("bob", 1), ("cy", 1)], [("bob", 1)])

    def test_rising_by_pythons_order(self):
        rows = []
        for number, own in enumerate(("b", "ab", "a", "zz", "aa", "b", "abcdef")):
            rows.append((own, (("keep", number), ("put", "x"))))
        names = [own for own, change in rows]
        wanted = [("a", 1), ("aa", 1), ("ab", 1), ("abcdef", 1), ("b", 2), ("zz", 1)]
        self.told("", rows, names, wanted, [])
        self.told("", rows + [("q", (("drop", "xxxxxxx"),))], [], [], wanted)

    def test_more_parts_and_signs(self):
        change = (("keep", 120), ("drop", "abcdefghij"), ("put", "zyxwvutsrqp")) * 9
        self.told(("m" * 120 + "abcdefghij") * 9, [("ann", change)], ([None] * 120 + ["ann"] * 11) * 9,
                  [("ann", 99)], [])

    def test_what_does_not_fit(self):
        for text, rows in (("ab", ROWS), ("axc", ROWS), ("", [("ann", nothing(1))]), ("a", [("ann", ())]),
                           ("abc", ROWS + ROWS[:1]), ("abc", ROWS[:1] + ROWS[2:]),
                           ("abc", ROWS[:3] + [("cy", (("drop", "y"), ("keep", 4)))]),
                           ("a", [("ann", (("drop", "b"), ("put", "a"))), ("bob", nothing(1))])):
            handed = copy.deepcopy(rows)
            for function in (owners, shares, lost):
                with self.subTest(text=text, rows=rows, function=function.__name__):
                    self.assertRaises(NoFit, function, text, rows)
                    self.assertEqual(rows, handed)

    def test_told_lists_are_new_ones(self):
        for function in (owners, shares, lost):
            was = function("abc", ROWS)
            function("abc", ROWS).append(None)
            function("abc", ROWS).clear()
            self.assertEqual(function("abc", ROWS), was)

    def test_all_small_rows(self):
        for text in ("", "a", "ab"):
            for many in (1, 2):
                for rows in owned_rows(text, many, ("p", "q")):
                    self.sign_by_sign(text, rows)
        for rows in owned_rows("a", 3, ("p", "q")):
            self.sign_by_sign("a", rows)

    def sign_by_sign(self, text, rows):
        standing, dropped = signs_of(text, rows)
        names = [own for sign, own in standing]
        gone = [own for sign, own in dropped]
        self.assertEqual(owners(text, rows), names, (text, rows))
        self.assertEqual(shares(text, rows), [(own, names.count(own)) for own in "pq" if own in names], (text, rows))
        self.assertEqual(lost(text, rows), [(own, gone.count(own)) for own in "pq" if own in gone], (text, rows))


if __name__ == "__main__":
    unittest.main()
