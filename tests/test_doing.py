"""[2.1] and [2.2]: changes done and undone, and behind one another."""

import copy
import unittest

from helper import is_in_form
from pastways.changes import cost
from pastways.doing import all_then, done, fits, nothing, then, undone
from pastways.errors import NoFit

CHANGE = (("keep", 2), ("drop", "c"), ("put", "x y"), ("keep", 1))


class FitsAndDoneTest(unittest.TestCase):
    def no_fit(self, change, text):
        with self.subTest(change=change, text=text):
            self.assertIs(fits(change, text), False)
            with self.assertRaises(NoFit):
                done(change, text)

    def made(self, change, text, wanted):
        with self.subTest(change=change, text=text):
            self.assertIs(fits(change, text), True)
            self.assertEqual(done(change, text), wanted)

    def test_ordinary(self):
        self.made(CHANGE, "abcd", "abx yd")
        self.made(CHANGE, "  c ", "  x y ")

    def test_the_empty_change_and_the_empty_text(self):
        self.made((), "", "")
        self.made((("put", "ab"),), "", "ab")
        self.made((("drop", "ab"),), "ab", "")
        self.no_fit((), "a")
        self.no_fit((), " ")
        self.no_fit((("keep", 1),), "")
        self.no_fit((("drop", "a"),), "")

    def test_another_length(self):
        self.no_fit(CHANGE, "abc")
        self.no_fit(CHANGE, "abcde")
        self.no_fit(CHANGE, "")
        self.no_fit((("keep", 99),), "a" * 98)
        self.no_fit((("keep", 99),), "a" * 100)
        self.no_fit((("put", "a"),), "a")

    def test_another_sign_than_that_dropped(self):
        self.no_fit(CHANGE, "abxd")
        self.no_fit(CHANGE, "ab d")
        self.no_fit((("drop", "ab"),), "ax")
        self.no_fit((("drop", "ab"),), "xb")
        self.no_fit((("keep", 1), ("drop", "ab")), "aba")

    def test_the_text_ends_within_what_is_dropped(self):
        self.no_fit((("drop", "ab"),), "a")
        self.no_fit((("keep", 1), ("drop", "bb")), "ab")

    def test_drops_go_by_the_text_and_not_by_what_is_put(self):
        self.made((("put", "x"), ("drop", "a"), ("put", "y"), ("drop", "b")), "ab", "xy")
        self.no_fit((("put", "a"), ("drop", "a")), "")
        self.no_fit((("put", "a"), ("drop", "a")), "b")

    def test_neighbours_of_one_word(self):
        self.made((("keep", 1), ("keep", 1), ("drop", "c"), ("drop", "d"), ("put", "x"), ("put", "y")), "abcd", "abxy")

    def test_more_parts_and_signs(self):
        change = (("keep", 150), ("drop", "abcdefghij"), ("put", "zyxwvutsrqp")) * 8
        self.made(change, ("m" * 150 + "abcdefghij") * 8, ("m" * 150 + "zyxwvutsrqp") * 8)
        self.no_fit(change, ("m" * 150 + "abcdefghij") * 7 + "m" * 150 + "abcdefghix")


class UndoneTest(unittest.TestCase):
    def told(self, change, wanted):
        with self.subTest(change=change):
            self.assertEqual(undone(change), wanted)

    def test_ordinary(self):
        self.told(CHANGE, (("keep", 2), ("drop", "x y"), ("put", "c"), ("keep", 1)))
        self.assertEqual(done(undone(CHANGE), "abx yd"), "abcd")

    def test_single_parts_and_the_empty_change(self):
        self.told((), ())
        self.told((("keep", 7),), (("keep", 7),))
        self.told((("put", "ab"),), (("drop", "ab"),))
        self.told((("drop", "ab"),), (("put", "ab"),))

    def test_told_in_form(self):
        self.told((("drop", "a"), ("put", "x"), ("drop", "b"), ("put", "y"), ("keep", 1), ("keep", 2)),
                  (("drop", "xy"), ("put", "ab"), ("keep", 3)))

    def test_more_parts_and_signs(self):
        self.told((("put", "abcdefgh"),) * 14 + (("keep", 99),) * 2, (("drop", "abcdefgh" * 14), ("keep", 198)))


class NothingTest(unittest.TestCase):
    def test_from_0_on(self):
        self.assertEqual(nothing(0), ())
        self.assertEqual(nothing(1), (("keep", 1),))
        self.assertEqual(nothing(99), (("keep", 99),))
        self.assertEqual(nothing(100), (("keep", 100),))

    def test_it_does_nothing(self):
        self.assertEqual(done(nothing(3), "a b"), "a b")
        self.assertEqual(done(nothing(0), ""), "")


class ThenTest(unittest.TestCase):
    def told(self, one, other, wanted):
        with self.subTest(one=one, other=other):
            self.assertEqual(then(one, other), wanted)

    def no_fit(self, one, other):
        with self.subTest(one=one, other=other), self.assertRaises(NoFit):
            then(one, other)

    def test_ordinary(self):
        self.told((("keep", 2), ("put", "xy"), ("keep", 1)), (("keep", 1), ("drop", "bx"), ("put", "z"), ("keep", 2)),
                  (("keep", 1), ("drop", "b"), ("put", "zy"), ("keep", 1)))

    def test_the_empty_change(self):
        self.told((), (), ())
        self.told((), (("put", "a"),), (("put", "a"),))
        self.told((("drop", "a"),), (), (("drop", "a"),))
        self.told((("put", "a"),), (("drop", "a"),), ())

    def test_what_is_dropped_and_then_put_is_dropped_and_put(self):
        self.told((("drop", "a"),), (("put", "a"),), (("drop", "a"), ("put", "a")))

    def test_what_is_put_and_then_dropped_is_not_there(self):
        self.told((("keep", 1), ("put", "abc"), ("keep", 1)), (("keep", 2), ("drop", "b"), ("keep", 2)),
                  (("keep", 1), ("put", "ac"), ("keep", 1)))
        self.told((("keep", 1), ("put", "abc"), ("keep", 1)), (("keep", 1), ("drop", "abc"), ("keep", 1)),
                  (("keep", 2),))

    def test_what_is_kept_is_kept_or_dropped(self):
        self.told((("keep", 3),), (("keep", 1), ("drop", "q"), ("keep", 1)), (("keep", 1), ("drop", "q"), ("keep", 1)))

    def test_the_other_puts_ahead_of_within_and_behind_what_the_one_put(self):
        for ahead, wanted in ((0, "xab"), (1, "axb"), (2, "abx")):
            other = nothing(ahead) + (("put", "x"),) + nothing(2 - ahead)
            self.told((("put", "ab"),), other, (("put", wanted),))

    def test_texts_of_another_length(self):
        self.no_fit((("keep", 2),), (("keep", 1),))
        self.no_fit((("keep", 2),), (("keep", 3),))
        self.no_fit((), (("drop", "a"),))
        self.no_fit((("put", "a"),), ())
        self.no_fit((("drop", "a"),), (("keep", 1),))

    def test_another_sign_than_was_put(self):
        self.no_fit((("put", "a"),), (("drop", "b"),))
        self.no_fit((("keep", 1), ("put", "ab"), ("keep", 1)), (("keep", 2), ("drop", "a"), ("keep", 1)))
        self.no_fit((("drop", "b"), ("put", "a")), (("drop", "b"), ("put", "a")))

    def test_told_in_form(self):
        self.told((("put", "x"), ("drop", "a"), ("keep", 1), ("keep", 1)),
                  (("keep", 1), ("put", "y"), ("drop", "b"), ("keep", 1)),
                  (("drop", "ab"), ("put", "xy"), ("keep", 1)))
        self.told((("put", "ab"), ("drop", "c")), nothing(1) + nothing(1), (("drop", "c"), ("put", "ab")))

    def test_more_parts_and_signs(self):
        one = (("keep", 120), ("put", "abcdefghij")) * 10
        told = then(one, undone(one))
        self.assertEqual(told, nothing(1200))
        self.assertEqual(then(undone(one), one), (("keep", 120), ("drop", "abcdefghij"), ("put", "abcdefghij")) * 10)

    def test_parts_without_signs(self):
        self.told((("keep", 0), ("put", "a"), ("drop", "")), (("drop", "a"), ("keep", 0), ("put", "")), ())


class AllThenTest(unittest.TestCase):
    def test_no_changes(self):
        self.assertEqual(all_then(0, []), ())
        self.assertEqual(all_then(5, []), (("keep", 5),))

    def test_one_behind_the_other(self):
        rows = [(("keep", 1), ("put", "x"), ("keep", 1)), (("drop", "a"), ("keep", 2)), (("keep", 2), ("put", "y"))]
        told = all_then(2, rows)
        self.assertEqual(told, (("drop", "a"), ("put", "x"), ("keep", 1), ("put", "y")))
        self.assertEqual(done(told, "ab"), "xby")

    def test_one_change_is_told_in_form(self):
        self.assertEqual(all_then(1, [(("put", "x"), ("drop", "a"))]), (("drop", "a"), ("put", "x")))

    def test_all_taken_back(self):
        rows = [(("keep", 1), ("put", "ab")), (("put", "c"), ("keep", 3))]
        back = [undone(change) for change in reversed(rows)]
        told = all_then(1, rows + back)
        self.assertTrue(is_in_form(told))
        self.assertEqual(told, nothing(1))
        self.assertEqual(cost(told), 0)

    def test_no_fit(self):
        for many, rows in ((1, [()]), (0, [(("keep", 1),)]), (2, [nothing(2), nothing(3)]),
                           (0, [(("put", "a"),), (("drop", "b"),)]),
                           (0, [(("put", "a"),), nothing(1), (("drop", "b"),)])):
            with self.subTest(many=many, rows=rows), self.assertRaises(NoFit):
                all_then(many, rows)

    def test_the_list_is_not_changed(self):
        rows = [(("put", "b"), ("drop", "a")), nothing(1)]
        was = copy.deepcopy(rows)
        all_then(1, rows)
        self.assertEqual(rows, was)

    def test_what_is_refused_changes_nothing(self):
        rows = [(("put", "b"), ("drop", "a")), (("put", "a"),), nothing(1)]
        was = copy.deepcopy(rows)
        with self.assertRaises(NoFit):
            all_then(1, rows)
        self.assertEqual(rows, was)


if __name__ == "__main__":
    unittest.main()
