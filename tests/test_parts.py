"""[5.1] and [5.2]: changes parted and joined."""

import unittest

from helper import is_in_form, laid_out, laid_together, small_changes
from pastways.changes import after, before, cost, form
from pastways.doing import all_then, done, nothing, then
from pastways.errors import NoPlace
from pastways.parts import cut, drops_of, joined, only, puts_of, singles

# Of abcde it makes axydez.
CHANGE = (("keep", 1), ("drop", "bc"), ("put", "xy"), ("keep", 2), ("put", "z"))
MIXED = (("put", "x"), ("drop", "a"), ("put", "y"), ("drop", "b"), ("keep", 1), ("keep", 1))


class DropsAndPutsTest(unittest.TestCase):
    def told(self, change, drops, puts):
        with self.subTest(change=change):
            self.assertEqual(drops_of(change), drops)
            self.assertEqual(puts_of(change), puts)

    def test_ordinary(self):
        self.told(CHANGE, (("keep", 1), ("drop", "bc"), ("keep", 2)),
                  (("keep", 1), ("put", "xy"), ("keep", 2), ("put", "z")))
        self.assertEqual(done(drops_of(CHANGE), "abcde"), "ade")

    def test_kept_signs_come_together(self):
        self.told((("keep", 1), ("put", "x"), ("keep", 1), ("drop", "a"), ("keep", 1)),
                  (("keep", 2), ("drop", "a"), ("keep", 1)), (("keep", 1), ("put", "x"), ("keep", 2)))

    def test_not_in_the_form(self):
        self.told(MIXED, (("drop", "ab"), ("keep", 2)), (("put", "xy"), ("keep", 2)))

    def test_nothing_of_either(self):
        self.told((), (), ())
        self.told(nothing(3), nothing(3), nothing(3))
        self.told((("put", "a"),), (), (("put", "a"),))
        self.told((("drop", "a"),), (("drop", "a"),), ())

    def test_behind_one_another_they_are_the_change(self):
        for change in small_changes(4):
            drops = drops_of(change)
            puts = puts_of(change)
            self.assertTrue(is_in_form(drops) and is_in_form(puts), change)
            self.assertEqual(then(drops, puts), form(change))
            self.assertNotIn("put", [word for word, what in drops])
            self.assertNotIn("drop", [word for word, what in puts])


class JoinedTest(unittest.TestCase):
    def test_ordinary(self):
        self.assertEqual(joined((("drop", "a"), ("keep", 1)), (("keep", 2), ("put", "x"))),
                         (("drop", "a"), ("keep", 3), ("put", "x")))

    def test_what_comes_together_is_in_the_form(self):
        self.assertEqual(joined((("drop", "a"), ("put", "x")), (("drop", "b"), ("put", "y"))),
                         (("drop", "ab"), ("put", "xy")))
        self.assertEqual(joined((("keep", 1), ("put", "x")), (("put", "y"), ("keep", 1))),
                         (("keep", 1), ("put", "xy"), ("keep", 1)))

    def test_the_empty_change(self):
        self.assertEqual(joined((), ()), ())
        self.assertEqual(joined(MIXED, ()), form(MIXED))
        self.assertEqual(joined((), MIXED), form(MIXED))

    def test_done_it_is_both(self):
        self.assertEqual(done(joined(CHANGE, MIXED), "abcdeabcd"), done(CHANGE, "abcde") + done(MIXED, "abcd"))


class CutTest(unittest.TestCase):
    def told(self, change, place, first, second):
        with self.subTest(change=change, place=place):
            self.assertEqual(cut(change, place), (first, second))
            self.assertIsInstance(cut(change, place), tuple)

    def test_ordinary(self):
        self.told(CHANGE, 1, (("keep", 1),), (("drop", "bc"), ("put", "xy"), ("keep", 2), ("put", "z")))
        self.told(CHANGE, 4, (("keep", 1), ("drop", "bc"), ("put", "xy"), ("keep", 1)), (("keep", 1), ("put", "z")))

    def test_within_what_is_dropped_and_what_is_kept(self):
        self.told(CHANGE, 2, (("keep", 1), ("drop", "b")), (("drop", "c"), ("put", "xy"), ("keep", 2), ("put", "z")))
        self.told(nothing(3), 2, nothing(2), nothing(1))

    def test_what_is_put_just_there_belongs_to_the_first(self):
        self.told(CHANGE, 3, (("keep", 1), ("drop", "bc"), ("put", "xy")), (("keep", 2), ("put", "z")))
        self.told((("keep", 1), ("put", "x"), ("keep", 1)), 1, (("keep", 1), ("put", "x")), (("keep", 1),))

    def test_at_the_start(self):
        self.told(CHANGE, 0, (), CHANGE)
        self.told((("put", "x"), ("keep", 2)), 0, (("put", "x"),), (("keep", 2),))
        self.told((("drop", "a"), ("put", "x")), 0, (), (("drop", "a"), ("put", "x")))

    def test_at_the_end(self):
        self.told(CHANGE, 5, CHANGE, ())
        self.told(nothing(2), 2, nothing(2), ())
        self.told((("drop", "a"), ("put", "x")), 1, (("drop", "a"), ("put", "x")), ())

    def test_the_empty_change_and_the_empty_text(self):
        self.told((), 0, (), ())
        self.told((("put", "ab"),), 0, (("put", "ab"),), ())

    def test_by_the_form(self):
        self.told(MIXED, 0, (), (("drop", "ab"), ("put", "xy"), ("keep", 2)))
        self.told(MIXED, 1, (("drop", "a"),), (("drop", "b"), ("put", "xy"), ("keep", 2)))
        self.told(MIXED, 2, (("drop", "ab"), ("put", "xy")), (("keep", 2),))

    def test_no_such_place(self):
        for change in (CHANGE, (), (("put", "ab"),), (("drop", "a"),), nothing(2)):
            for place in (-1, -2, before(change) + 1, before(change) + 9):
                with self.subTest(change=change, place=place):
                    self.assertRaises(NoPlace, cut, change, place)

    def test_all_small_changes(self):
        for change in small_changes(4):
            gone, puts = laid_out(change)
            for place in range(len(gone) + 1):
                first, second = cut(change, place)
                self.assertTrue(is_in_form(first) and is_in_form(second), (change, place))
                self.assertEqual(first, form(laid_together(gone[:place], puts[:place + 1])), (change, place))
                self.assertEqual(second, form(laid_together(gone[place:], [""] + puts[place + 1:])), (change, place))
                self.assertEqual(joined(first, second), form(change), (change, place))


class OnlyTest(unittest.TestCase):
    def told(self, change, start, end, wanted):
        with self.subTest(change=change, start=start, end=end):
            self.assertEqual(only(change, start, end), wanted)

    def test_ordinary(self):
        self.told(CHANGE, 1, 4, (("keep", 1), ("drop", "bc"), ("put", "xy"), ("keep", 2)))
        self.told(CHANGE, 2, 4, (("keep", 2), ("drop", "c"), ("put", "xy"), ("keep", 2)))
        self.told(CHANGE, 1, 2, (("keep", 1), ("drop", "b"), ("keep", 3)))

    def test_what_is_put_at_the_end_is_in_and_at_the_start_not(self):
        self.told(CHANGE, 3, 5, (("keep", 5), ("put", "z")))
        self.told(CHANGE, 3, 4, nothing(5))
        self.told(CHANGE, 1, 3, (("keep", 1), ("drop", "bc"), ("put", "xy"), ("keep", 2)))
        self.told((("put", "x"), ("keep", 2), ("put", "y")), 0, 2, (("keep", 2), ("put", "y")))

    def test_start_and_end_the_same(self):
        for place in range(6):
            self.told(CHANGE, place, place, nothing(5))
        self.told((("put", "x"),), 0, 0, ())
        self.told((), 0, 0, ())

    def test_the_whole(self):
        self.told(CHANGE, 0, 5, CHANGE)
        self.told(MIXED, 0, 4, (("drop", "ab"), ("put", "xy"), ("keep", 2)))

    def test_no_such_place(self):
        for start, end in ((-1, 2), (-1, -1), (0, 6), (6, 6), (5, 6), (-2, 9)):
            with self.subTest(start=start, end=end):
                self.assertRaises(NoPlace, only, CHANGE, start, end)

    def test_the_end_is_less(self):
        for start, end in ((1, 0), (5, 0), (5, 4), (0, -1), (6, 5)):
            with self.subTest(start=start, end=end):
                self.assertRaises(NoPlace, only, CHANGE, start, end)

    def test_all_small_changes(self):
        for change in small_changes(3):
            gone, puts = laid_out(change)
            many = len(gone)
            for start in range(many + 1):
                for end in range(start, many + 1):
                    kept = [sign if start <= place < end else None for place, sign in enumerate(gone)]
                    left = [text if start < place <= end else "" for place, text in enumerate(puts)]
                    told = only(change, start, end)
                    self.assertTrue(is_in_form(told), (change, start, end))
                    self.assertEqual(told, form(laid_together(kept, left)), (change, start, end))


class SinglesTest(unittest.TestCase):
    def told(self, change, wanted):
        with self.subTest(change=change):
            self.assertEqual(singles(change), wanted)

    def test_ordinary(self):
        self.told(CHANGE, [
            (("keep", 1), ("drop", "b"), ("keep", 3)),
            (("keep", 1), ("drop", "c"), ("keep", 2)),
            (("keep", 1), ("put", "x"), ("keep", 2)),
            (("keep", 2), ("put", "y"), ("keep", 2)),
            (("keep", 5), ("put", "z"))])

    def test_by_the_form(self):
        self.told((("put", "x"), ("drop", "a")), [(("drop", "a"),), (("put", "x"),)])

    def test_nothing_is_put_or_dropped(self):
        self.told((), [])
        self.told(nothing(3), [])

    def test_told_lists_are_new_ones(self):
        singles(CHANGE).clear()
        singles(()).append(None)
        self.assertEqual(len(singles(CHANGE)), 5)
        self.assertEqual(singles(()), [])

    def test_all_small_changes(self):
        for change in small_changes(4):
            rows = singles(change)
            self.assertEqual([cost(row) for row in rows], [1] * cost(change), change)
            self.assertTrue(all(is_in_form(row) for row in rows), change)
            self.assertEqual(all_then(before(change), rows), form(change))
            # Each sign goes on where the last one stood, never left of it.
            places = [laid_out(row)[0].index(what) if word == "drop" else laid_out(row)[1].index(what)
                      for row in rows for word, what in row if word != "keep"]
            self.assertEqual(places, sorted(places), change)
            self.assertTrue(not rows or after(rows[-1]) == after(change), change)


if __name__ == "__main__":
    unittest.main()
