"""[1.1] and [1.2]: what a change is, how many signs it goes through, its form."""

import copy
import unittest

from helper import is_in_form, made_of, small_changes, small_texts
from pastways.changes import after, before, cost, form, is_change


class IsChangeTest(unittest.TestCase):
    def yes(self, *things):
        for thing in things:
            with self.subTest(thing=thing):
                self.assertIs(is_change(thing), True)

    def no(self, *things):
        for thing in things:
            with self.subTest(thing=thing):
                self.assertIs(is_change(thing), False)

    def test_ordinary_changes(self):
        self.yes((("keep", 3), ("drop", "ab"), ("put", "x y")),
                 (("put", "a"),),
                 (("drop", "z"),))

    def test_the_empty_change(self):
        self.yes(())

    def test_a_change_need_not_be_in_its_form(self):
        self.yes((("keep", 1), ("keep", 1)),
                 (("put", "a"), ("put", "b")),
                 (("put", "a"), ("drop", "b"), ("put", "a")))

    def test_kept_from_1_to_99(self):
        self.yes((("keep", 1),), (("keep", 99),))
        self.no((("keep", 0),), (("keep", 100),), (("keep", -1),))

    def test_kept_is_a_whole_number_and_no_truth(self):
        self.no((("keep", True),), (("keep", False),), (("keep", None),), (("keep", "1"),), (("keep", "a"),),
                (("keep", (1,)),), (("keep", [1]),), (("keep", ()),))

    def test_texts_of_1_to_8_signs(self):
        for word in ("put", "drop"):
            self.yes(((word, "a"),), ((word, "abcdefgh"),), ((word, " "),), ((word, "        "),))
            self.no(((word, ""),), ((word, "abcdefghi"),))

    def test_all_signs_and_no_others(self):
        for word in ("put", "drop"):
            self.yes(*[((word, sign),) for sign in "abcdefghijklmnopqrstuvwxyz "])
            self.no(*[((word, sign),) for sign in "AZ09`{_-/=+~!\n\t\0\u00e9\u00aa\u0430\u00a0\u00df"])
            self.no(((word, "abC"),), ((word, "a\n"),), ((word, "ab\u00e9d"),))

    def test_put_and_drop_take_texts_alone(self):
        for word in ("put", "drop"):
            self.no(((word, 1),), ((word, True),), ((word, None),), ((word, ("a",)),), ((word, ["a"]),),
                    ((word, ()),))

    def test_the_words_are_these_three(self):
        self.no((("Keep", 1),), (("", 1),), (("keep ", 1),), (("add", "a"),), (("pu", "t"),), (("p", "a"),),
                ((None, "a"),), ((1, "a"),), ((True, 1),), ((("keep",), 1),), ((["put"], "a"),))

    def test_parts_are_tuples_of_two(self):
        self.no((["keep", 1],), ("keep",), ("ab",), ((),), (("keep",),), (("keep", 1, 1),), (("put", "a", "b"),),
                (None,), (1,), (True,), ((("keep", 1),),))

    def test_a_change_is_a_tuple(self):
        self.no([], [("keep", 1)], [["keep", 1]], None, True, False, 0, 1, "", "keep", ("keep", 1))

    def test_one_wrong_part_among_right_ones(self):
        self.no((("keep", 1), ("put", "A")), (("put", "A"), ("keep", 1)), (("keep", 1), ["keep", 1], ("keep", 1)))

    def test_12_parts_at_most(self):
        self.yes((("keep", 1),) * 12, (("keep", 99), ("put", "abcdefgh")) * 6)
        self.no((("keep", 1),) * 13, (("put", "a"),) * 40)

    def test_deep_things(self):
        deep = ()
        for step in range(12):
            deep = (deep, [deep])
        self.no(deep, (deep, deep), (("keep", deep),), (("put", deep),), ((deep, "a"),), [deep])

    def test_what_is_handed_in_is_not_changed(self):
        for thing in ([("keep", 1), ["put", "a"]], (["keep", 1], ("put", ["a", "b"])), ([], [[]])):
            was = copy.deepcopy(thing)
            self.no(thing)
            self.assertEqual(thing, was)


class CountsTest(unittest.TestCase):
    def test_ordinary_change(self):
        change = (("keep", 3), ("drop", "ab"), ("put", "x y"), ("keep", 1))
        self.assertEqual(before(change), 6)
        self.assertEqual(after(change), 7)
        self.assertEqual(cost(change), 5)

    def test_the_empty_change(self):
        self.assertEqual((before(()), after(()), cost(())), (0, 0, 0))

    def test_single_parts(self):
        self.assertEqual([count((("keep", 4),)) for count in (before, after, cost)], [4, 4, 0])
        self.assertEqual([count((("put", "abc"),)) for count in (before, after, cost)], [0, 3, 3])
        self.assertEqual([count((("drop", "abc"),)) for count in (before, after, cost)], [3, 0, 3])

    def test_what_is_dropped_and_put_again_counts_twice(self):
        self.assertEqual(cost((("drop", "a"), ("put", "a"))), 2)

    def test_more_parts_and_signs(self):
        change = (("keep", 250), ("drop", "abcdefghij"), ("put", "abcdefghijkl")) * 9
        self.assertEqual(before(change), 9 * 260)
        self.assertEqual(after(change), 9 * 262)
        self.assertEqual(cost(change), 9 * 22)


class FormTest(unittest.TestCase):
    def told(self, change, wanted):
        with self.subTest(change=change):
            self.assertEqual(form(change), wanted)

    def test_what_is_in_form_stays(self):
        for change in ((), (("keep", 3),), (("drop", "a"), ("put", "b")),
                       (("put", "a"), ("keep", 1), ("drop", "b"), ("put", "c"), ("keep", 2), ("drop", "d"))):
            self.told(change, change)

    def test_neighbours_of_one_word(self):
        self.told((("keep", 1), ("keep", 2), ("keep", 3)), (("keep", 6),))
        self.told((("put", "ab"), ("put", "c")), (("put", "abc"),))
        self.told((("drop", "ab"), ("drop", "c")), (("drop", "abc"),))

    def test_drops_ahead_of_puts_in_any_order(self):
        wanted = (("drop", "ab"), ("put", "xy"))
        for change in ((("put", "x"), ("put", "y"), ("drop", "a"), ("drop", "b")),
                       (("put", "x"), ("drop", "a"), ("put", "y"), ("drop", "b")),
                       (("put", "x"), ("drop", "a"), ("drop", "b"), ("put", "y")),
                       (("drop", "a"), ("put", "x"), ("drop", "b"), ("put", "y")),
                       (("drop", "a"), ("put", "x"), ("put", "y"), ("drop", "b")),
                       (("drop", "a"), ("drop", "b"), ("put", "x"), ("put", "y"))):
            self.told(change, wanted)

    def test_ahead_of_the_first_between_and_behind_the_last_kept_sign(self):
        self.told((("put", "a"), ("drop", "b"), ("keep", 1), ("put", "c"), ("drop", "d"), ("keep", 1),
                   ("put", "e"), ("drop", "f")),
                  (("drop", "b"), ("put", "a"), ("keep", 1), ("drop", "d"), ("put", "c"), ("keep", 1),
                   ("drop", "f"), ("put", "e")))

    def test_nothing_crosses_a_kept_sign(self):
        self.told((("put", "a"), ("keep", 1), ("drop", "b")), (("put", "a"), ("keep", 1), ("drop", "b")))
        self.told((("put", "a"), ("keep", 1), ("put", "a")), (("put", "a"), ("keep", 1), ("put", "a")))

    def test_what_is_dropped_and_put_again_stays(self):
        self.told((("put", "a"), ("drop", "a")), (("drop", "a"), ("put", "a")))

    def test_more_parts_and_signs(self):
        self.told((("keep", 99),) * 20, (("keep", 1980),))
        self.told((("put", "abcdefgh"), ("drop", "a")) * 10, (("drop", "a" * 10), ("put", "abcdefgh" * 10)))

    def test_parts_without_signs_go(self):
        self.told((("put", "a"), ("keep", 0), ("drop", "b"), ("put", "")), (("drop", "b"), ("put", "a")))

    def test_all_small_changes(self):
        texts = small_texts(6)
        for change in small_changes(3):
            told = form(change)
            self.assertTrue(is_in_form(told), change)
            self.assertEqual([made_of(told, text) for text in texts], [made_of(change, text) for text in texts])
            self.assertEqual(form(told), told)
            for count in (before, after, cost):
                self.assertEqual(count(told), count(change))


if __name__ == "__main__":
    unittest.main()
