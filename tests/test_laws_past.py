"""[0.2] (c), of all small changes and rows; and past as [3.1] tells it, sign by sign."""

import unittest

from helper import is_in_form, laid_out, led, small_changes, small_rows
from pastways.changes import before
from pastways.doing import all_then, then
from pastways.errors import Clash, NoFit
from pastways.passing import clashing, merged, past, rows_past


def unlike(one, other):
    """The places at which both drop unlike signs."""
    both = list(zip(laid_out(one)[0], laid_out(other)[0]))
    return [place for place, signs in enumerate(both) if None not in signs and signs[0] != signs[1]]


def pairs(most):
    """All pairs of small changes of one length."""
    changes = small_changes(most)
    return [(one, other) for one in changes for other in changes if before(one) == before(other)]


class PastLawsTest(unittest.TestCase):
    def test_past_is_sign_by_sign(self):
        clashes = 0
        for one, other in pairs(3):
            self.assertEqual(clashing(one, other), unlike(one, other), (one, other))
            if unlike(one, other):
                clashes += 1
                self.assertRaises(Clash, past, one, other, True)
                self.assertRaises(Clash, past, one, other, False)
                continue
            for is_first in (True, False):
                told = past(one, other, is_first)
                self.assertTrue(is_in_form(told), (one, other))
                self.assertEqual(told, led(one, other, is_first), (one, other))
        self.assertGreater(clashes, 0)

    def test_both_ways_come_to_one_form(self):
        for one, other in pairs(3):
            if not unlike(one, other):
                for is_first in (True, False):
                    self.assertEqual(then(one, past(other, one, is_first)),
                                     then(other, past(one, other, not is_first)), (one, other))
                self.assertEqual(merged(one, other), then(other, past(one, other, True)), (one, other))

    def test_unlike_lengths(self):
        for one in small_changes(2):
            for other in small_changes(2):
                if before(one) != before(other):
                    self.assertRaises(NoFit, past, one, other, True)
                    self.assertRaises(NoFit, clashing, one, other)


class RowsLawsTest(unittest.TestCase):
    def both_ways(self, many, ones, others):
        told = rows_past(ones, others)
        self.assertEqual([len(told[0]), len(told[1])], [len(ones), len(others)])
        self.assertTrue(all(is_in_form(change) for change in told[0] + told[1]), (ones, others))
        self.assertEqual(all_then(many, ones + told[1]), all_then(many, others + told[0]), (ones, others))
        return told

    def test_both_ways_come_to_one_form(self):
        for text in ("", "a", "ab"):
            rows = [row for many in range(3) for row in small_rows(text, many)]
            for ones in rows:
                for others in rows:
                    self.both_ways(len(text), ones, others)

    def test_each_step_past_each(self):
        for ones in small_rows("a", 2):
            for others in small_rows("a", 2):
                told = self.both_ways(1, ones, others)
                first = past(others[0], ones[0], False)
                second = past(others[1], past(ones[0], others[0], True), False)
                self.assertEqual(told[0][0], past(past(ones[0], others[0], True), others[1], True))
                self.assertEqual(told[0][1], past(past(ones[1], first, True), second, True))
                self.assertEqual(told[1][0], past(first, ones[1], False))
                self.assertEqual(told[1][1], past(second, past(ones[1], first, True), False))


if __name__ == "__main__":
    unittest.main()
