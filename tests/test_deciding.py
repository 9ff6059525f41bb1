"""[7.1] and [0.2] (a): whether changes are alike, and texts that part them or that all fit."""

import itertools
import unittest

from helper import made_of, small_changes, small_texts
from pastways.changes import form
from pastways.deciding import all_fit, alike, parting, within
from pastways.doing import nothing

TEXTS = small_texts(6)

# Each with parts in another order, or split otherwise.
ALIKE = (
    ((), ()),
    ((("put", "x"), ("drop", "a")), (("drop", "a"), ("put", "x"))),
    ((("keep", 1), ("keep", 2)), (("keep", 3),)),
    ((("put", "a"), ("drop", "b"), ("put", "c"), ("drop", "d"), ("keep", 1)),
     (("drop", "bd"), ("put", "ac"), ("keep", 1))),
    ((("keep", 150),), (("keep", 75), ("keep", 75))),
)
# Each with a text that parts them.
UNLIKE = (
    # Of unlike lengths.
    ((), (("keep", 1),)),
    ((("keep", 2),), (("keep", 3),)),
    ((("put", "a"),), (("drop", "a"),)),
    # What is dropped and put again stands there in just some texts.
    ((("drop", "a"), ("put", "a")), (("keep", 1),)),
    ((("keep", 1), ("drop", "b"), ("put", "b")), (("keep", 2),)),
    # Unlike signs dropped, or at unlike places.
    ((("drop", "a"),), (("drop", "b"),)),
    ((("drop", "a"), ("keep", 1)), (("keep", 1), ("drop", "a"))),
    ((("drop", "b"), ("keep", 1)), (("keep", 1), ("drop", "b"))),
    # Unlike signs put, or at unlike places: a text of just the one sign does not part these.
    ((("put", "a"),), (("put", "b"),)),
    ((("put", "a"), ("keep", 1)), (("keep", 1), ("put", "a"))),
    ((("put", "b"), ("keep", 2)), (("keep", 2), ("put", "b"))),
    ((("put", "ab"), ("keep", 1)), (("put", "a"), ("keep", 1), ("put", "b"))),
    ((("put", "ba"), ("keep", 1)), (("put", "b"), ("keep", 1), ("put", "a"))),
    ((("put", "a"),), (("put", "aa"),)),
    ((("put", "abcdefghijklmnopqrstuvwxyz "), ("keep", 1)), (("keep", 1), ("put", "abcdefghijklmnopqrstuvwxyz "))),
)


def swapped(pairs):
    return tuple(pairs) + tuple((other, one) for one, other in pairs)


class AlikeTest(unittest.TestCase):
    def test_alike(self):
        for one, other in swapped(ALIKE):
            with self.subTest(one=one, other=other):
                self.assertIs(alike(one, other), True)
                self.assertIs(within(one, other), True)
                self.assertIsNone(parting(one, other))

    def test_not_alike(self):
        for one, other in swapped(UNLIKE):
            with self.subTest(one=one, other=other):
                self.assertIs(alike(one, other), False)
                text = parting(one, other)
                self.assertIsInstance(text, str)
                self.assertLessEqual(set(text), set("abcdefghijklmnopqrstuvwxyz "))
                self.assertNotEqual(made_of(one, text), made_of(other, text))

    def test_more_parts_and_signs(self):
        one = (("keep", 120), ("drop", "abcdefghij"), ("put", "zyxwvutsrqp")) * 9
        other = one[:-1] + (("put", "zyxwvutsrqq"),)
        self.assertIs(alike(one, tuple(list(one))), True)
        self.assertIs(alike(one, other), False)
        self.assertNotEqual(made_of(one, parting(one, other)), made_of(other, parting(one, other)))

    def test_all_small_changes(self):
        changes = small_changes(3)
        seen = {change: [made_of(change, text) for text in TEXTS] for change in changes}
        # Two signs part any two changes that are not alike, and no small text is too short for three parts.
        for one in changes:
            fitting = [number for number, made in enumerate(seen[one]) if made is not None]
            for other in changes:
                are_alike = seen[one] == seen[other]
                self.assertIs(alike(one, other), are_alike, (one, other))
                self.assertEqual(form(one) == form(other), are_alike, (one, other))
                is_within = all(seen[one][number] == seen[other][number] for number in fitting)
                self.assertIs(within(one, other), is_within, (one, other))
                text = parting(one, other)
                self.assertEqual(text is None, are_alike, (one, other))
                if text is not None:
                    self.assertNotEqual(made_of(one, text), made_of(other, text), (one, other))


class WithinTest(unittest.TestCase):
    def told(self, one, other, forth, back):
        with self.subTest(one=one, other=other):
            self.assertIs(within(one, other), forth)
            self.assertIs(within(other, one), back)

    def test_what_is_dropped_and_put_again_is_within_what_keeps(self):
        self.told((("drop", "a"), ("put", "a")), (("keep", 1),), True, False)
        self.told((("drop", "abc"), ("put", "abc")), nothing(3), True, False)
        self.told((("drop", "ab"), ("put", "ab"), ("keep", 1)), (("drop", "a"), ("put", "a"), ("keep", 2)), True, False)

    def test_a_sign_that_stands_for_one_kept(self):
        # Of aa both make a, but of ba the other one makes b.
        self.told((("drop", "aa"), ("put", "a")), (("keep", 1), ("drop", "a")), True, False)
        self.told((("drop", "ab"), ("put", "a")), (("keep", 1), ("drop", "a")), False, False)

    def test_neither_is_within_the_other(self):
        self.told((("drop", "a"), ("put", "b")), (("keep", 1),), False, False)
        self.told((("put", "a"), ("keep", 1)), (("keep", 1), ("put", "a")), False, False)
        self.told((("put", "b"), ("keep", 1)), (("keep", 1), ("put", "b")), False, False)
        self.told((("drop", "a"), ("put", "a"), ("keep", 1)), (("keep", 1), ("drop", "a"), ("put", "a")), False, False)

    def test_unlike_lengths(self):
        self.told((), (("keep", 1),), False, False)
        self.told((("put", "a"),), (("drop", "a"),), False, False)
        self.told((("keep", 3),), (("keep", 2),), False, False)


class AllFitTest(unittest.TestCase):
    def fit(self, changes):
        with self.subTest(changes=changes):
            handed = list(changes)
            text = all_fit(changes)
            self.assertIsInstance(text, str)
            self.assertLessEqual(set(text), set("abcdefghijklmnopqrstuvwxyz "))
            self.assertTrue(all(made_of(change, text) is not None for change in changes))
            self.assertEqual(changes, handed)
            return text

    def none(self, changes):
        with self.subTest(changes=changes):
            handed = list(changes)
            self.assertIsNone(all_fit(changes))
            self.assertEqual(changes, handed)

    def test_ordinary(self):
        text = self.fit([(("keep", 1), ("drop", "b"), ("keep", 1)), (("drop", "ab"), ("keep", 1)),
                         (("keep", 2), ("drop", "x"), ("put", "y"))])
        self.assertEqual(text, "abx")

    def test_a_list_of_one(self):
        self.assertEqual(self.fit([()]), "")
        self.assertEqual(self.fit([(("put", "ab"),)]), "")
        self.assertEqual(self.fit([(("drop", "b c"), ("put", "x"))]), "b c")
        self.assertEqual(len(self.fit([nothing(120)])), 120)

    def test_a_sign_dropped_in_one_and_kept_in_all_others(self):
        for changes in itertools.permutations([nothing(1), (("drop", "z"),), (("put", "q"), ("keep", 1))]):
            self.assertEqual(self.fit(list(changes)), "z")

    def test_unlike_lengths(self):
        self.none([(), (("keep", 1),)])
        self.none([(("keep", 1),), ()])
        self.none([(("keep", 2),), (("keep", 2),), (("drop", "aaa"),)])

    def test_unlike_signs_dropped_at_one_place(self):
        self.none([(("drop", "a"),), (("drop", "b"),)])
        self.none([(("drop", "b"),), (("drop", "a"),)])
        self.none([(("keep", 1), ("drop", "b")), nothing(2), (("drop", "ab"),), (("drop", "ac"),)])

    def test_each_two_fit_but_not_all(self):
        self.none([(("drop", "a"), ("keep", 1)), (("keep", 1), ("drop", "b")), (("drop", "bb"),)])

    def test_all_small_changes(self):
        changes = small_changes(2)
        fitting = {change: {text for text in TEXTS if made_of(change, text) is not None} for change in changes}
        for many in (1, 2, 3):
            for row in itertools.product(changes, repeat=many):
                text = all_fit(list(row))
                both = set.intersection(*[fitting[change] for change in row])
                if text is None:
                    self.assertEqual(both, set(), row)
                else:
                    self.assertIn(text, both, row)


if __name__ == "__main__":
    unittest.main()
