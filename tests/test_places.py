"""[4.1] and [4.2]: where places come to, and the places that a change touches."""

import copy
import unittest

from helper import is_in_form, laid_out, small_changes
from pastways.changes import after, before, form
from pastways.doing import nothing, undone
from pastways.errors import NoPlace
from pastways.places import of_touched, place_after, place_before, sign_after, touched

# Of abcde it makes axydez.
CHANGE = (("keep", 1), ("drop", "bc"), ("put", "xy"), ("keep", 2), ("put", "z"))
BACK = (("keep", 1), ("drop", "xy"), ("put", "bc"), ("keep", 2), ("drop", "z"))


class PlaceAfterTest(unittest.TestCase):
    def told(self, change, ahead, behind):
        """For each place of the text what is told of both sides."""
        with self.subTest(change=change):
            places = range(before(change) + 1)
            self.assertEqual([place_after(change, place, "ahead") for place in places], ahead)
            self.assertEqual([place_after(change, place, "behind") for place in places], behind)

    def test_ordinary(self):
        self.told(CHANGE, [0, 1, 1, 1, 4, 5], [0, 1, 1, 3, 4, 6])

    def test_something_put_at_the_first_place_and_at_the_last(self):
        self.told((("put", "xy"), ("keep", 2), ("put", "z")), [0, 3, 4], [2, 3, 5])

    def test_all_is_dropped(self):
        self.told((("drop", "abc"),), [0, 0, 0, 0], [0, 0, 0, 0])
        self.told((("drop", "abc"), ("put", "x")), [0, 0, 0, 0], [0, 0, 0, 1])

    def test_the_empty_change_and_the_empty_text(self):
        self.told((), [0], [0])
        self.told((("put", "ab"),), [0], [2])

    def test_nothing_is_changed(self):
        self.told(nothing(3), [0, 1, 2, 3], [0, 1, 2, 3])

    def test_by_the_form(self):
        self.told((("put", "x"), ("drop", "a"), ("keep", 1)), [0, 0, 2], [0, 1, 2])
        self.told((("put", "x"), ("drop", "a"), ("put", "y"), ("keep", 1)), [0, 0, 3], [0, 2, 3])

    def test_no_such_place(self):
        for change in (CHANGE, (), (("put", "ab"),), (("drop", "a"),), nothing(2)):
            for place in (-1, -2, before(change) + 1, before(change) + 9):
                for side in ("ahead", "behind"):
                    with self.subTest(change=change, place=place, side=side):
                        self.assertRaises(NoPlace, place_after, change, place, side)

    def test_all_small_changes(self):
        for change in small_changes(4):
            gone, puts = laid_out(change)
            for place in range(len(gone) + 1):
                kept = gone[:place].count(None)
                ahead = kept + len("".join(puts[:place]))
                self.assertEqual(place_after(change, place, "ahead"), ahead, (change, place))
                self.assertEqual(place_after(change, place, "behind"), ahead + len(puts[place]), (change, place))


class PlaceBeforeTest(unittest.TestCase):
    def test_ordinary(self):
        self.assertEqual([place_before(CHANGE, place, "ahead") for place in range(7)], [0, 1, 1, 1, 4, 5, 5])
        self.assertEqual([place_before(CHANGE, place, "behind") for place in range(7)], [0, 1, 1, 3, 4, 5, 5])

    def test_the_empty_change_and_the_empty_text(self):
        for side in ("ahead", "behind"):
            self.assertEqual(place_before((), 0, side), 0)
            self.assertEqual([place_before((("put", "ab"),), place, side) for place in range(3)], [0, 0, 0])
        self.assertEqual(place_before((("drop", "ab"),), 0, "ahead"), 0)
        self.assertEqual(place_before((("drop", "ab"),), 0, "behind"), 2)

    def test_no_such_place(self):
        for change in (CHANGE, (), (("put", "ab"),), (("drop", "a"),), nothing(2)):
            for place in (-1, after(change) + 1, after(change) + 9):
                for side in ("ahead", "behind"):
                    with self.subTest(change=change, place=place, side=side):
                        self.assertRaises(NoPlace, place_before, change, place, side)

    def test_as_place_after_of_undone(self):
        for change in small_changes(3):
            for place in range(after(change) + 1):
                for side in ("ahead", "behind"):
                    self.assertEqual(place_before(change, place, side), place_after(undone(change), place, side))


class SignAfterTest(unittest.TestCase):
    def told(self, change, wanted):
        with self.subTest(change=change):
            self.assertEqual([sign_after(change, place) for place in range(before(change))], wanted)

    def test_ordinary(self):
        self.told(CHANGE, [0, None, None, 3, 4])
        self.told(BACK, [0, None, None, 3, 4, None])

    def test_signs_put_just_ahead_of_it(self):
        self.told((("put", "xy"), ("keep", 2)), [2, 3])
        self.told((("put", "xy"), ("drop", "a"), ("put", "z"), ("keep", 1)), [None, 3])

    def test_a_sign_dropped_at_each_end(self):
        self.told((("drop", "a"), ("keep", 1), ("drop", "b")), [None, 0, None])
        self.told((("drop", "a"), ("put", "a")), [None])

    def test_no_such_place_and_no_sign_there(self):
        for change in (CHANGE, (), (("put", "ab"),), (("drop", "a"),), nothing(2)):
            for place in (-1, -2, before(change), before(change) + 1):
                with self.subTest(change=change, place=place):
                    self.assertRaises(NoPlace, sign_after, change, place)

    def test_all_small_changes(self):
        for change in small_changes(4):
            gone, puts = laid_out(change)
            for place, sign in enumerate(gone):
                wanted = gone[:place].count(None) + len("".join(puts[:place + 1])) if sign is None else None
                self.assertEqual(sign_after(change, place), wanted, (change, place))


class TouchedTest(unittest.TestCase):
    def told(self, change, rows):
        with self.subTest(change=change):
            handed = copy.deepcopy(rows)
            self.assertEqual(touched(change), rows)
            self.assertEqual(of_touched(before(change), rows), form(change))
            self.assertEqual(rows, handed)

    def test_ordinary(self):
        self.told(CHANGE, [(1, "bc", "xy"), (5, "", "z")])
        self.told(BACK, [(1, "xy", "bc"), (5, "z", "")])

    def test_either_empty(self):
        self.told((("put", "a"), ("keep", 1), ("drop", "b"), ("keep", 2), ("put", "c")),
                  [(0, "", "a"), (1, "b", ""), (4, "", "c")])

    def test_nothing_is_touched(self):
        self.told((), [])
        self.told(nothing(3), [])

    def test_the_empty_text(self):
        self.told((("put", "ab"),), [(0, "", "ab")])
        self.told((("drop", "ab"),), [(0, "ab", "")])

    def test_by_the_form(self):
        self.told((("put", "x"), ("drop", "a"), ("put", "y"), ("drop", "b"), ("keep", 1), ("keep", 1), ("drop", "c")),
                  [(0, "ab", "xy"), (4, "c", "")])

    def test_told_lists_are_new_ones(self):
        touched(CHANGE).clear()
        self.assertEqual(touched(CHANGE), [(1, "bc", "xy"), (5, "", "z")])

    def test_rows_that_stand_beside_one_another(self):
        self.assertEqual(of_touched(4, [(1, "b", "x"), (2, "c", "y")]),
                         (("keep", 1), ("drop", "bc"), ("put", "xy"), ("keep", 1)))
        self.assertEqual(of_touched(2, [(0, "", "")]), nothing(2))

    def test_more_parts_and_signs(self):
        self.told((("keep", 150), ("drop", "abcdefghij"), ("put", "zyxwvutsrqp")) * 8,
                  [(150 + 160 * number, "abcdefghij", "zyxwvutsrqp") for number in range(8)])

    def test_all_small_changes(self):
        for change in small_changes(4):
            rows = touched(change)
            places = [place for place, gone, new in rows]
            self.assertEqual(places, sorted(set(places)), change)
            self.assertTrue(all(gone or new for place, gone, new in rows), change)
            told = of_touched(before(change), rows)
            self.assertTrue(is_in_form(told), change)
            self.assertEqual(told, form(change))


if __name__ == "__main__":
    unittest.main()
