"""[0.2] (c), of all small changes and rows; and past as [3.1] tells it, sign by sign."""

import unittest

from helper import is_in_form, laid_out, made_of, small_changes
from pastways.changes import before, form
from pastways.doing import all_then, then
from pastways.errors import Clash, NoFit
from pastways.passing import clashing, merged, past, rows_past


def led(one, other, is_first):
    """What [3.1] tells of past, sign by sign, of changes of one length."""
    gone, puts = laid_out(one)
    lost, news = laid_out(other)
    parts = []
    for place in range(len(gone) + 1):
        mine = [("put", sign) for sign in puts[place]]
        kept = [("keep", 1) for sign in news[place]]
        parts.extend(mine + kept if is_first else kept + mine)
        if place < len(gone) and lost[place] is None:
            parts.append(("keep", 1) if gone[place] is None else ("drop", gone[place]))
    return form(tuple(parts))


def unlike(one, other):
    """The places at which both drop unlike signs."""
    both = list(zip(laid_out(one)[0], laid_out(other)[0]))
    return [place for place, signs in enumerate(both) if None not in signs and signs[0] != signs[1]]


def pairs(most):
    """All pairs of small changes of one length."""
    changes = small_changes(most)
    return [(one, other) for one in changes for other in changes if before(one) == before(other)]


class PastLawsTest(unittest.TestCase):
    def test_past_is_sign_by_sign(self):
        clashes = 0
        for one, other in pairs(3):
            self.assertEqual(clashing(one, other), unlike(one, other), (one, other))
            if unlike(one, other):
                clashes += 1
                self.assertRaises(Clash, past, one, other, True)
                self.assertRaises(Clash, past, one, other, False)
                continue
            for is_first in (True, False):
                told = past(one, other, is_first)
                self.assertTrue(is_in_form(told), (one, other))
                self.assertEqual(told, led(one, other, is_first), (one, other))
        self.assertGreater(clashes, 0)

    def test_both_ways_come_to_one_form(self):
        for one, other in pairs(3):
            if not unlike(one, other):
                for is_first in (True, False):
                    self.assertEqual(then(one, past(other, one, is_first)),
                                     then(other, past(one, other, not is_first)), (one, other))
                self.assertEqual(merged(one, other), then(other, past(one, other, True)), (one, other))

    def test_unlike_lengths(self):
        for one in small_changes(2):
            for other in small_changes(2):
                if before(one) != before(other):
                    self.assertRaises(NoFit, past, one, other, True)
                    self.assertRaises(NoFit, clashing, one, other)


class RowsLawsTest(unittest.TestCase):
    def rows(self, text, many):
        """All rows of so many small changes that go on from the text."""
        rows = [([], text)]
        for step in range(many):
            rows = [(row + [change], made_of(change, old))
                    for row, old in rows for change in small_changes(2) if made_of(change, old) is not None]
        return [row for row, old in rows]

    def both_ways(self, many, ones, others):
        told = rows_past(ones, others)
        self.assertEqual([len(told[0]), len(told[1])], [len(ones), len(others)])
        self.assertTrue(all(is_in_form(change) for change in told[0] + told[1]), (ones, others))
        self.assertEqual(all_then(many, ones + told[1]), all_then(many, others + told[0]), (ones, others))
        return told

    def test_both_ways_come_to_one_form(self):
        for text in ("", "a", "ab"):
            rows = [row for many in range(3) for row in self.rows(text, many)]
            for ones in rows:
                for others in rows:
                    self.both_ways(len(text), ones, others)

    def test_each_step_past_each(self):
        for ones in self.rows("a", 2):
            for others in self.rows("a", 2):
                told = self.both_ways(1, ones, others)
                first = past(others[0], ones[0], False)
                second = past(others[1], past(ones[0], others[0], True), False)
                self.assertEqual(told[0][0], past(past(ones[0], others[0], True), others[1], True))
                self.assertEqual(told[0][1], past(past(ones[1], first, True), second, True))
                self.assertEqual(told[1][0], past(first, ones[1], False))
                self.assertEqual(told[1][1], past(second, past(ones[1], first, True), False))


if __name__ == "__main__":
    unittest.main()
