"""[6.1]: changes between two texts."""

import unittest

from helper import is_in_form, made_of, small_texts
from pastways.changes import cost
from pastways.doing import done, nothing
from pastways.making import apart, least_change, least_cost


def all_between(old, new):
    """Every change, sign by sign, that makes the new text of the old one."""
    if not old and not new:
        return [()]
    told = []
    if old:
        told += [(("drop", old[0]),) + rest for rest in all_between(old[1:], new)]
    if new:
        told += [(("put", new[0]),) + rest for rest in all_between(old, new[1:])]
    if old and new and old[0] == new[0]:
        told += [(("keep", 1),) + rest for rest in all_between(old[1:], new[1:])]
    return told


class LeastTest(unittest.TestCase):
    def least(self, old, new, wanted):
        with self.subTest(old=old, new=new):
            self.assertEqual(least_cost(old, new), wanted)
            change = least_change(old, new)
            self.assertTrue(is_in_form(change))
            self.assertEqual(cost(change), wanted)
            self.assertEqual(made_of(change, old), new)

    def test_ordinary(self):
        self.least("kitten", "sitting", 5)
        self.least("abcabba", "cbabac", 5)
        self.least("a quick fox", "the quick foxes", 6)

    def test_alike(self):
        self.least("", "", 0)
        self.least("abc", "abc", 0)
        self.assertEqual(least_change("abc", "abc"), nothing(3))
        self.assertEqual(least_change("", ""), ())

    def test_the_empty_text(self):
        self.least("", "ab ", 3)
        self.least("ab ", "", 3)
        self.assertEqual(least_change("", "ab "), (("put", "ab "),))
        self.assertEqual(least_change("ab ", ""), (("drop", "ab "),))

    def test_a_shared_first_or_last_part_or_nothing(self):
        self.least("abcd", "abxy", 4)
        self.least("abcd", "xycd", 4)
        self.least("abc", "xyz", 6)
        self.least("aa", "aaa", 1)
        self.least("aba", "a", 2)
        self.assertEqual(least_change("abc", "xyz"), (("drop", "abc"), ("put", "xyz")))

    def test_a_shared_part_in_the_middle(self):
        self.least("xxabcyy", "abc", 4)
        self.least("abc", "xxabcyy", 4)
        self.least("abcd", "dabc", 2)

    def test_long_texts(self):
        old = "abcdefghi " * 20
        self.least(old, old[:90] + "zz" + old[95:], 7)

    def test_none_is_less(self):
        for old in small_texts(3):
            for new in small_texts(3):
                self.least(old, new, min(cost(change) for change in all_between(old, new)))


class ApartTest(unittest.TestCase):
    def told(self, old, new, wanted):
        with self.subTest(old=old, new=new):
            self.assertEqual(apart(old, new), wanted)
            self.assertEqual(done(apart(old, new), old), new)

    def test_ordinary(self):
        self.told("abcde", "abxyde", (("keep", 2), ("drop", "c"), ("put", "xy"), ("keep", 2)))
        self.told("a b", "a c b", (("keep", 2), ("put", "c "), ("keep", 1)))

    def test_alike(self):
        self.told("", "", ())
        self.told("abc", "abc", nothing(3))
        self.told("aaa", "aaa", nothing(3))

    def test_a_shared_first_part(self):
        self.told("abcd", "abxy", (("keep", 2), ("drop", "cd"), ("put", "xy")))
        self.told("ab", "abc", (("keep", 2), ("put", "c")))
        self.told("abc", "ab", (("keep", 2), ("drop", "c")))

    def test_a_shared_last_part(self):
        self.told("abcd", "xycd", (("drop", "ab"), ("put", "xy"), ("keep", 2)))
        self.told("bc", "abc", (("put", "a"), ("keep", 2)))
        self.told("abc", "bc", (("drop", "a"), ("keep", 2)))

    def test_nothing_shared(self):
        self.told("abc", "xyz", (("drop", "abc"), ("put", "xyz")))
        self.told("ab", "ba", (("drop", "ab"), ("put", "ba")))

    def test_the_empty_text(self):
        self.told("", "ab", (("put", "ab"),))
        self.told("ab", "", (("drop", "ab"),))

    def test_first_and_last_signs_would_overlap(self):
        self.told("aa", "aaa", (("keep", 2), ("put", "a")))
        self.told("aaa", "aa", (("keep", 2), ("drop", "a")))
        self.told("aba", "ababa", (("keep", 3), ("put", "ba")))
        self.told("ababa", "aba", (("keep", 3), ("drop", "ba")))
        self.told("abcab", "ab", (("keep", 2), ("drop", "cab")))

    def test_what_is_between_may_share_signs(self):
        self.told("xaby", "xbay", (("keep", 1), ("drop", "ab"), ("put", "ba"), ("keep", 1)))

    def test_all_small_texts(self):
        for old in small_texts(4):
            for new in small_texts(4):
                first = max(many for many in range(min(len(old), len(new)) + 1) if old[:many] == new[:many])
                left, wanted = old[first:], new[first:]
                last = max(many for many in range(min(len(left), len(wanted)) + 1)
                           if left[len(left) - many:] == wanted[len(wanted) - many:])
                parts = (("keep", first), ("drop", left[:len(left) - last]), ("put", wanted[:len(wanted) - last]),
                         ("keep", last))
                if old == new:
                    parts = (("keep", len(old)),)
                self.told(old, new, tuple(part for part in parts if part[1]))


if __name__ == "__main__":
    unittest.main()
