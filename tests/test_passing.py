"""[3.1] and [3.2]: changes, and rows of them, led past one another."""

import copy
import unittest

from helper import is_in_form
from pastways.doing import done, nothing, then
from pastways.errors import Clash, NoFit
from pastways.passing import clashing, merged, past, rows_past


class PastTest(unittest.TestCase):
    def led(self, one, other, wanted):
        """What is told whether the one's signs are ahead or not."""
        self.led_first(one, other, wanted, wanted)

    def led_first(self, one, other, ahead, behind):
        with self.subTest(one=one, other=other):
            self.assertEqual(past(one, other, True), ahead)
            self.assertEqual(past(one, other, False), behind)
            self.assertTrue(is_in_form(ahead) and is_in_form(behind))

    def test_signs_that_the_other_put_are_kept(self):
        self.led((("drop", "ab"), ("keep", 1)), (("keep", 1), ("put", "xy"), ("keep", 2)),
                 (("drop", "a"), ("keep", 2), ("drop", "b"), ("keep", 1)))
        self.led((("keep", 3), ("put", "z")), (("put", "xy"), ("keep", 3)), (("keep", 5), ("put", "z")))

    def test_what_the_other_dropped_is_not_there_any_more(self):
        self.led((("keep", 2), ("put", "x"), ("keep", 1)), (("drop", "a"), ("keep", 2)),
                 (("keep", 1), ("put", "x"), ("keep", 1)))
        self.led((("keep", 3),), (("drop", "abc"),), ())

    def test_both_drop_the_same_sign(self):
        self.led((("drop", "ab"), ("keep", 1)), (("keep", 1), ("drop", "bc")), (("drop", "a"),))
        self.led((("drop", "a"),), (("drop", "a"),), ())
        self.led((("drop", "a"), ("put", "x")), (("drop", "a"),), (("put", "x"),))

    def test_what_the_other_kept_is_kept_or_dropped(self):
        self.led((("keep", 1), ("drop", "b"), ("keep", 1)), (("keep", 3),), (("keep", 1), ("drop", "b"), ("keep", 1)))

    def test_both_put_between_the_same_two_signs(self):
        self.led_first((("keep", 1), ("put", "xy"), ("keep", 1)), (("keep", 1), ("put", "z"), ("keep", 1)),
                       (("keep", 1), ("put", "xy"), ("keep", 2)), (("keep", 2), ("put", "xy"), ("keep", 1)))

    def test_both_put_at_the_start_and_at_the_end(self):
        self.led_first((("put", "x"), ("keep", 1)), (("put", "y"), ("keep", 1)),
                       (("put", "x"), ("keep", 2)), (("keep", 1), ("put", "x"), ("keep", 1)))
        self.led_first((("keep", 1), ("put", "x")), (("keep", 1), ("put", "yz")),
                       (("keep", 1), ("put", "x"), ("keep", 2)), (("keep", 3), ("put", "x")))
        self.led_first((("put", "x"),), (("put", "yz"),), (("put", "x"), ("keep", 2)), (("keep", 2), ("put", "x")))

    def test_both_put_behind_the_same_dropped_sign(self):
        self.led_first((("drop", "a"), ("put", "x")), (("drop", "a"), ("put", "y")),
                       (("put", "x"), ("keep", 1)), (("keep", 1), ("put", "x")))

    def test_puts_beside_what_the_other_drops(self):
        # By the form the other's sign stands behind all that it drops, so the one's is ahead of it up to there.
        self.led((("put", "x"), ("keep", 2)), (("drop", "ab"), ("put", "y")), (("put", "x"), ("keep", 1)))
        self.led((("keep", 1), ("put", "x"), ("keep", 1)), (("drop", "ab"), ("put", "y")), (("put", "x"), ("keep", 1)))
        self.led_first((("keep", 2), ("put", "x")), (("drop", "ab"), ("put", "y")),
                       (("put", "x"), ("keep", 1)), (("keep", 1), ("put", "x")))
        self.led((("drop", "ab"), ("put", "y")), (("put", "x"), ("keep", 2)), (("keep", 1), ("drop", "ab"), ("put", "y")))
        self.led((("drop", "ab"), ("put", "y")), (("keep", 1), ("put", "x"), ("keep", 1)),
                 (("drop", "a"), ("keep", 1), ("drop", "b"), ("put", "y")))
        self.led((("drop", "ab"), ("put", "x"), ("keep", 1)), (("keep", 1), ("drop", "bc"), ("put", "y")),
                 (("drop", "a"), ("put", "x"), ("keep", 1)))

    def test_places_go_by_the_forms_of_both(self):
        # Written ahead of what is dropped, but by the form behind it.
        self.led((("put", "x"), ("drop", "a"), ("keep", 1)), (("put", "y"), ("keep", 2)),
                 (("keep", 1), ("drop", "a"), ("put", "x"), ("keep", 1)))
        self.led((("put", "x"), ("keep", 2)), (("put", "y"), ("drop", "a"), ("keep", 1)),
                 (("put", "x"), ("keep", 2)))
        self.led_first((("put", "x"), ("drop", "a"), ("put", "z"), ("keep", 1)),
                       (("keep", 1), ("put", "y"), ("keep", 1)),
                       (("drop", "a"), ("put", "xz"), ("keep", 2)),
                       (("drop", "a"), ("keep", 1), ("put", "xz"), ("keep", 1)))

    def test_drops_and_puts_that_come_together_are_in_the_form(self):
        self.led((("put", "x"), ("keep", 1), ("drop", "b")), (("drop", "a"), ("keep", 1)), (("drop", "b"), ("put", "x")))

    def test_the_empty_change(self):
        self.led((), (), ())
        self.led((), (("put", "ab"),), (("keep", 2),))
        self.led((("put", "ab"),), (), (("put", "ab"),))

    def test_past_nothing_it_is_its_form(self):
        change = (("keep", 1), ("put", "x"), ("drop", "b"), ("keep", 1), ("keep", 1))
        self.led(change, nothing(4), (("keep", 1), ("drop", "b"), ("put", "x"), ("keep", 2)))
        self.led(nothing(4), change, nothing(4))

    def test_more_parts_and_signs(self):
        one = (("keep", 120), ("drop", "abcdefghij")) * 9
        other = (("keep", 120), ("put", "zyxwvutsrqp"), ("keep", 10)) * 9
        self.led(one, other, (("keep", 131), ("drop", "abcdefghij")) * 9)

    def test_unlike_lengths(self):
        for one, other in (((), (("keep", 1),)), ((("keep", 1),), (("keep", 2),)), ((("put", "a"),), (("keep", 1),)),
                           ((("drop", "ab"),), (("keep", 1),)), ((("keep", 1), ("put", "a")), (("keep", 2),))):
            for function in (clashing, merged):
                with self.subTest(one=one, other=other, function=function.__name__):
                    self.assertRaises(NoFit, function, one, other)
                    self.assertRaises(NoFit, function, other, one)
            for is_first in (True, False):
                with self.subTest(one=one, other=other, is_first=is_first):
                    self.assertRaises(NoFit, past, one, other, is_first)
                    self.assertRaises(NoFit, past, other, one, is_first)


class ClashingTest(unittest.TestCase):
    def clash(self, one, other, places):
        with self.subTest(one=one, other=other):
            self.assertEqual(clashing(one, other), places)
            self.assertEqual(clashing(other, one), places)
            for is_first in (True, False):
                self.assertRaises(Clash, past, one, other, is_first)
                self.assertRaises(Clash, past, other, one, is_first)
            self.assertRaises(Clash, merged, one, other)
            self.assertRaises(Clash, rows_past, [one], [other])

    def fine(self, one, other):
        with self.subTest(one=one, other=other):
            self.assertEqual(clashing(one, other), [])
            self.assertEqual(clashing(other, one), [])

    def test_unlike_signs_at_one_place(self):
        self.clash((("drop", "a"),), (("drop", "b"),), [0])
        self.clash((("drop", " "),), (("drop", "a"),), [0])
        self.clash((("keep", 2), ("drop", "ab")), (("keep", 3), ("drop", "c")), [3])
        self.clash((("drop", "ab"),), (("drop", "ba"),), [0, 1])

    def test_the_places_rise_and_count_signs_of_the_text(self):
        self.clash((("drop", "abcd"), ("put", "xyz"), ("keep", 1), ("drop", "e")),
                   (("put", "zz"), ("drop", "bb"), ("keep", 1), ("drop", "x"), ("keep", 1), ("drop", "f")), [0, 3, 5])
        self.clash((("drop", "abcdefghijkl"),), (("drop", "xbxdefghijkx"),), [0, 2, 11])

    def test_nothing_clashes(self):
        self.fine((), ())
        self.fine((("drop", "ab"),), (("drop", "ab"),))
        self.fine((("drop", "a"), ("keep", 1)), (("keep", 1), ("drop", "b")))
        self.fine((("keep", 2),), (("drop", "ab"),))
        self.fine((("put", "a"), ("keep", 1)), (("put", "b"), ("drop", "c")))

    def test_told_lists_are_new_ones(self):
        one = (("drop", "a"),)
        other = (("drop", "b"),)
        clashing(one, other).append(7)
        self.assertEqual(clashing(one, other), [0])


class MergedTest(unittest.TestCase):
    def test_ordinary(self):
        one = (("keep", 1), ("drop", "b"), ("put", "x"), ("keep", 1))
        other = (("drop", "ab"), ("keep", 1), ("put", "y"))
        self.assertEqual(merged(one, other), (("drop", "ab"), ("put", "x"), ("keep", 1), ("put", "y")))
        self.assertEqual(done(merged(one, other), "abc"), "xcy")

    def test_the_ones_signs_are_ahead(self):
        self.assertEqual(merged((("put", "x"),), (("put", "y"),)), (("put", "xy"),))
        self.assertEqual(merged((("keep", 1), ("put", "b")), (("keep", 1), ("put", "a"))), (("keep", 1), ("put", "ba")))

    def test_the_empty_change(self):
        self.assertEqual(merged((), ()), ())
        self.assertEqual(merged((("put", "b"), ("drop", "a")), nothing(1)), (("drop", "a"), ("put", "b")))


class RowsPastTest(unittest.TestCase):
    def led(self, ones, others, wanted):
        with self.subTest(ones=ones, others=others):
            handed = copy.deepcopy((ones, others))
            told = rows_past(ones, others)
            self.assertEqual(told, wanted)
            self.assertEqual((ones, others), handed)
            self.assertIsInstance(told, tuple)
            self.assertTrue(all(isinstance(rows, list) for rows in told))
            for rows in told:
                rows.append(None)
            self.assertEqual((ones, others), handed)
            self.assertEqual(rows_past(ones, others), wanted)

    def test_rows_of_none(self):
        change = (("put", "x"), ("drop", "a"))
        self.led([], [], ([], []))
        self.led([change], [], ([(("drop", "a"), ("put", "x"))], []))
        self.led([], [change, change[:1] + (("keep", 1),)],
                 ([], [(("drop", "a"), ("put", "x")), (("put", "x"), ("keep", 1))]))

    def test_rows_of_one(self):
        self.led([(("keep", 1), ("put", "x"))], [(("keep", 1), ("put", "y"))],
                 ([(("keep", 1), ("put", "x"), ("keep", 1))], [(("keep", 2), ("put", "y"))]))
        self.led([(("keep", 1), ("put", "x"))], [(("drop", "a"),)], ([(("put", "x"),)], [(("drop", "a"), ("keep", 1))]))

    def test_rows_of_several(self):
        # Of ab the ones make xab, then xb; the others make aby, then azby.
        ones = [(("put", "x"), ("keep", 2)), (("keep", 1), ("drop", "a"), ("keep", 1))]
        others = [(("keep", 2), ("put", "y")), (("keep", 1), ("put", "z"), ("keep", 2)), (("keep", 3), ("drop", "y"))]
        self.led(ones, others,
                 ([(("put", "x"), ("keep", 3)), (("keep", 1), ("drop", "a"), ("keep", 2))],
                  [(("keep", 2), ("put", "y")), (("keep", 1), ("put", "z"), ("keep", 2)), (("keep", 3), ("drop", "y"))]))

    def test_one_past_several_and_several_past_one(self):
        typed = [(("put", "a"),), (("keep", 1), ("put", "b")), (("keep", 2), ("put", "c"))]
        self.led([(("put", "x"),)], typed,
                 ([(("put", "x"), ("keep", 3))],
                  [(("keep", 1), ("put", "a")), (("keep", 2), ("put", "b")), (("keep", 3), ("put", "c"))]))
        self.led(typed, [(("put", "x"),)],
                 ([(("put", "a"), ("keep", 1)), (("keep", 1), ("put", "b"), ("keep", 1)),
                   (("keep", 2), ("put", "c"), ("keep", 1))],
                  [(("keep", 3), ("put", "x"))]))

    def test_the_ones_signs_are_ahead(self):
        ones = [(("put", "a"),), (("keep", 1), ("put", "b"))]
        others = [(("put", "c"),), (("put", "d"), ("keep", 1))]
        told = rows_past(ones, others)
        text = ""
        for change in ones + told[1]:
            text = done(change, text)
        self.assertEqual(text, "abdc")

    def test_unlike_lengths(self):
        keep = [nothing(many) for many in range(4)]
        for ones, others in (([keep[1]], [keep[2]]), ([keep[1], keep[2]], [keep[1]]), ([keep[1], keep[2]], []),
                             ([keep[1], keep[1], keep[0]], [keep[1], keep[1]]),
                             ([keep[3]], [(("keep", 2), ("put", "a"))])):
            with self.subTest(ones=ones, others=others):
                self.assertRaises(NoFit, rows_past, ones, others)
                self.assertRaises(NoFit, rows_past, others, ones)

    def test_clash_further_on(self):
        # The sign that both drop stands at other places when it comes to it.
        ones = [(("put", "xy"), ("keep", 2)), (("keep", 3), ("drop", "b"))]
        others = [(("drop", "a"), ("keep", 1)), (("drop", "c"),)]
        self.assertRaises(Clash, rows_past, ones, others)
        self.assertRaises(Clash, rows_past, others, ones)
        self.assertEqual(rows_past(ones, others[:1])[0][1], (("keep", 2), ("drop", "b")))

    def test_refused_rows_are_as_they_were(self):
        ones = [(("drop", "a"),)]
        others = [(("keep", 1),), (("drop", "b"),)]
        self.assertRaises(Clash, rows_past, ones, others)
        self.assertEqual(ones, [(("drop", "a"),)])
        self.assertEqual(others, [(("keep", 1),), (("drop", "b"),)])

    def test_of_one_each_as_past_and_merged(self):
        one = (("keep", 1), ("put", "x"), ("drop", "b"))
        other = (("drop", "a"), ("put", "y"), ("keep", 1))
        told = rows_past([one], [other])
        self.assertEqual(told, ([past(one, other, True)], [past(other, one, False)]))
        self.assertEqual(merged(one, other), then(one, told[1][0]))


if __name__ == "__main__":
    unittest.main()
