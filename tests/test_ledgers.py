"""[13.1], [13.2] and [0.2] (j): ledgers of owned changes, which go back and forth."""

import itertools
import unittest

from helper import signs_of
from pastways.doing import nothing
from pastways.errors import NoFit, NoNumber, NoPlace
from pastways.ledgers import Ledger
from pastways.squeezing import squeezed

# Of abc they make xabc, xyabc, xyac.
ROWS = [("ann", (("put", "x"), ("keep", 3))), ("ann", (("keep", 1), ("put", "y"), ("keep", 3))),
        ("bob", (("keep", 3), ("drop", "b"), ("keep", 1)))]
FOLDED = [("ann", (("put", "xy"), ("keep", 3))), ("bob", (("keep", 3), ("drop", "b"), ("keep", 1)))]


def all_of(ledger):
    """All that a ledger tells without a step."""
    names = [ledger.owner_at(place) for place in range(len(ledger.text()))]
    return ledger.text(), ledger.entries(), names, ledger.counts()


def ledger_of(text, rows):
    ledger = Ledger(text)
    for own, change in rows:
        ledger.write(own, change)
    return ledger


class LedgerCase(unittest.TestCase):
    def refused(self, ledger, error, method, *what):
        """The refusal is of this class, and changes nothing."""
        was = all_of(ledger)
        with self.subTest(method=method, what=what):
            self.assertRaises(error, getattr(ledger, method), *what)
            self.assertEqual(all_of(ledger), was)


class LedgerTest(LedgerCase):
    def test_no_changes(self):
        for text in ("", "a b"):
            ledger = Ledger(text)
            self.assertEqual(all_of(ledger), (text, [], [None] * len(text), (0, 0)))
            self.refused(ledger, NoNumber, "back")
            self.refused(ledger, NoNumber, "forth")

    def test_write_tells_the_text_then(self):
        ledger = Ledger("abc")
        self.assertEqual([ledger.write(own, change) for own, change in ROWS], ["xabc", "xyabc", "xyac"])
        self.assertEqual(all_of(ledger), ("xyac", ROWS, ["ann", "ann", None, None], (3, 0)))

    def test_write_refuses_what_does_not_fit(self):
        ledger = ledger_of("abc", ROWS)
        ledger.back()
        # What was taken back can still be done again.
        for change in (nothing(4), nothing(6), (("drop", "y"), ("keep", 4)), ()):
            self.refused(ledger, NoFit, "write", "ann", change)
        self.assertEqual(ledger.forth(), "write")
        self.refused(Ledger(""), NoFit, "write", "ann", nothing(1))

    def test_a_write_that_changes_nothing(self):
        ledger = Ledger("abc")
        self.assertEqual(ledger.write("ann", nothing(3)), "abc")
        self.assertEqual(all_of(ledger), ("abc", [("ann", nothing(3))], [None] * 3, (1, 0)))
        self.assertEqual(ledger.back(), "write")
        self.assertEqual(all_of(ledger), ("abc", [], [None] * 3, (0, 1)))
        self.assertEqual(ledger.forth(), "write")
        self.assertEqual(ledger.entries(), [("ann", nothing(3))])

    def test_entries_stand_as_handed_in_or_squeezed(self):
        change = (("put", "x"), ("drop", "a"), ("keep", 1), ("keep", 1))
        ledger = Ledger("abc")
        ledger.write("ann", change)
        self.assertEqual(ledger.entries(), [("ann", change)])
        ledger.fold()
        self.assertEqual(ledger.entries(), [("ann", (("drop", "a"), ("put", "x"), ("keep", 2)))])
        ledger.write("bob", (("put", "y"), ("keep", 1), ("keep", 2)))
        self.assertEqual(ledger.entries(), [("ann", (("drop", "a"), ("put", "x"), ("keep", 2))),
                                            ("bob", (("put", "y"), ("keep", 1), ("keep", 2)))])

    def test_fold(self):
        ledger = ledger_of("abc", ROWS)
        self.assertEqual(ledger.fold(), 1)
        self.assertEqual(all_of(ledger), ("xyac", FOLDED, ["ann", "ann", None, None], (4, 0)))
        self.assertEqual(ledger.write("bob", (("keep", 4), ("put", "z"))), "xyacz")
        self.assertEqual(ledger.fold(), 1)
        self.assertEqual(ledger.entries(), FOLDED[:1] + [("bob", (("keep", 3), ("drop", "b"), ("keep", 1), ("put", "z")))])

    def test_a_fold_of_none(self):
        ledger = Ledger("abc")
        self.assertEqual(ledger.fold(), 0)
        self.assertEqual(all_of(ledger), ("abc", [], [None] * 3, (1, 0)))
        self.assertEqual(ledger.back(), "fold")
        self.assertEqual(ledger.counts(), (0, 1))
        self.assertEqual(ledger.forth(), "fold")

    def test_a_fold_that_changes_nothing(self):
        ledger = ledger_of("abc", FOLDED)
        self.assertEqual(ledger.fold(), 0)
        self.assertEqual(all_of(ledger), ("xyac", FOLDED, ["ann", "ann", None, None], (3, 0)))
        self.assertEqual(ledger.back(), "fold")
        self.assertEqual(ledger.back(), "write")
        self.assertEqual(ledger.entries(), FOLDED[:1])

    def test_a_fold_to_none(self):
        ledger = ledger_of("", [("ann", (("put", "a"),)), ("ann", (("drop", "a"),)), ("bob", ())])
        self.assertEqual(ledger.fold(), 3)
        self.assertEqual(all_of(ledger), ("", [], [], (4, 0)))

    def test_owner_at(self):
        ledger = ledger_of("abc", ROWS)
        self.assertEqual([ledger.owner_at(place) for place in range(4)], ["ann", "ann", None, None])
        for place in (-4, -1, 4, 5):
            self.refused(ledger, NoPlace, "owner_at", place)
        self.refused(Ledger(""), NoPlace, "owner_at", 0)
        self.assertIsNone(Ledger("a").owner_at(0))
        self.refused(Ledger("a"), NoPlace, "owner_at", 1)

    def test_owner_at_of_a_sign_dropped_and_put_again(self):
        ledger = ledger_of("a", [("ann", (("keep", 1), ("put", "b"))), ("bob", (("drop", "ab"), ("put", "ab"))),
                                 ("cy", (("keep", 1), ("drop", "b"), ("put", "b")))])
        self.assertEqual([ledger.owner_at(place) for place in (0, 1)], ["bob", "cy"])
        ledger.back()
        self.assertEqual([ledger.owner_at(place) for place in (0, 1)], ["bob", "bob"])
        ledger.back()
        self.assertEqual([ledger.owner_at(place) for place in (0, 1)], [None, "ann"])

    def test_more_parts_and_signs(self):
        change = (("keep", 120), ("put", "abcdefghij")) * 9
        ledger = ledger_of("m" * 1080, [("someonelong", change)])
        self.assertEqual(ledger.entries(), [("someonelong", change)])
        self.assertEqual(ledger.owner_at(1169), "someonelong")

    def test_told_lists_are_new_ones(self):
        ledger = ledger_of("abc", ROWS)
        for step in ("none", "fold", "back"):
            if step != "none":
                getattr(ledger, step)()
            was = all_of(ledger)
            ledger.entries().clear()
            ledger.entries().append(None)
            ledger.entries().reverse()
            self.assertEqual(all_of(ledger), was)
        none = Ledger("")
        none.entries().append(None)
        self.assertEqual(none.entries(), [])

    def test_each_ledger_goes_by_itself(self):
        one, other = Ledger("abc"), Ledger("abc")
        one.write(*ROWS[0])
        one.back()
        self.assertEqual(all_of(other), ("abc", [], [None] * 3, (0, 0)))


class BackAndForthTest(LedgerCase):
    def test_step_by_step(self):
        ledger = Ledger("abc")
        seen = [all_of(ledger)]
        for own, change in ROWS:
            ledger.write(own, change)
            seen.append(all_of(ledger))
        ledger.fold()
        seen.append(all_of(ledger))
        self.assertEqual([row[3] for row in seen], [(many, 0) for many in range(5)])
        for many in (3, 2, 1, 0):
            self.assertEqual(ledger.back(), "fold" if many == 3 else "write")
            self.assertEqual(all_of(ledger), seen[many][:3] + ((many, 4 - many),))
        self.refused(ledger, NoNumber, "back")
        for many in (1, 2, 3, 4):
            self.assertEqual(ledger.forth(), "fold" if many == 4 else "write")
            self.assertEqual(all_of(ledger), seen[many][:3] + ((many, 4 - many),))
        self.refused(ledger, NoNumber, "forth")

    def test_a_fold_taken_back_and_done_again(self):
        ledger = ledger_of("abc", ROWS)
        ledger.fold()
        self.assertEqual(ledger.back(), "fold")
        self.assertEqual(all_of(ledger), ("xyac", ROWS, ["ann", "ann", None, None], (3, 1)))
        self.assertEqual(ledger.forth(), "fold")
        self.assertEqual(all_of(ledger), ("xyac", FOLDED, ["ann", "ann", None, None], (4, 0)))

    def test_forth_behind_another_step(self):
        for step in (("write", "cy", (("keep", 5), ("put", "z"))), ("write", "cy", nothing(5)), ("fold",)):
            ledger = ledger_of("abc", ROWS)
            ledger.back()
            getattr(ledger, step[0])(*step[1:])
            self.refused(ledger, NoNumber, "forth")
            self.assertEqual(ledger.counts(), (3, 0))
            # What was taken back itself can be done again.
            self.assertEqual([ledger.back(), ledger.forth()], [step[0], step[0]])
            self.refused(ledger, NoNumber, "forth")

    def test_back_and_forth_where_there_is_none(self):
        ledger = ledger_of("abc", ROWS[:1])
        self.refused(ledger, NoNumber, "forth")
        ledger.back()
        self.refused(ledger, NoNumber, "back")
        ledger.forth()
        self.refused(ledger, NoNumber, "forth")


class TwinTest(LedgerCase):
    def both_ways(self):
        """A ledger that can take back and do again."""
        ledger = ledger_of("abc", ROWS)
        ledger.fold()
        ledger.back()
        ledger.back()
        return ledger

    def test_it_is_as_this_one(self):
        ledger = self.both_ways()
        twin = ledger.twin()
        self.assertIsInstance(twin, Ledger)
        self.assertIsNot(twin, ledger)
        self.assertEqual(all_of(twin), all_of(ledger))
        self.assertEqual(twin.counts(), (2, 2))
        told = [twin.forth(), twin.entries(), twin.forth(), twin.entries(), twin.back(), twin.back(), twin.back(),
                twin.entries(), twin.back(), twin.counts(), twin.text()]
        self.assertEqual(told, ["write", ROWS, "fold", FOLDED, "fold", "write", "write", ROWS[:1], "write", (0, 4), "abc"])

    def test_a_twin_of_none(self):
        twin = Ledger("abc").twin()
        self.assertEqual(all_of(twin), ("abc", [], [None] * 3, (0, 0)))
        self.refused(twin, NoNumber, "back")

    def test_each_goes_by_itself(self):
        steps = (("write", "cy", (("keep", 5), ("put", "z"))), ("fold",), ("back",), ("forth",))
        for step in steps:
            for is_twin in (True, False):
                ledger = self.both_ways()
                pair = [ledger, ledger.twin()]
                was = all_of(ledger)
                getattr(pair[is_twin], step[0])(*step[1:])
                self.assertEqual(all_of(pair[not is_twin]), was, step)
                self.assertNotEqual(all_of(pair[is_twin]), was, step)
                self.assertEqual([pair[not is_twin].forth(), pair[not is_twin].forth()], ["write", "fold"])

    def test_its_twin(self):
        ledger = self.both_ways()
        twin = ledger.twin()
        other = twin.twin()
        was = all_of(ledger)
        twin.write("cy", nothing(5))
        self.assertEqual(all_of(other), was)
        self.assertEqual(other.forth(), "write")
        self.assertEqual(all_of(ledger), was)
        self.assertEqual([twin.counts(), other.counts(), ledger.counts()], [(3, 0), (3, 1), (2, 2)])


class Wanted:
    """What a ledger must tell, straight from [13.1] and [13.2], as states and the number of that which holds."""

    def __init__(self, text):
        self.begun = text
        self.states = [("", [])]
        self.at = 0

    def rows(self):
        return list(self.states[self.at][1])

    def add(self, word, rows):
        self.states = self.states[:self.at + 1] + [(word, rows)]
        self.at += 1

    def told(self):
        standing = signs_of(self.begun, self.rows())[0]
        return ("".join([sign for sign, own in standing]), self.rows(), [own for sign, own in standing],
                (self.at, len(self.states) - 1 - self.at))


class LedgerLawsTest(unittest.TestCase):
    def step(self, ledger, wanted, word, own):
        """The step in both, and what is told of it."""
        text = wanted.told()[0]
        if word == "fold":
            fewer = squeezed(wanted.rows())
            self.assertEqual(ledger.fold(), len(wanted.rows()) - len(fewer))
            wanted.add("fold", fewer)
        elif word in ("back", "forth"):
            at = wanted.at + (1 if word == "forth" else -1)
            if 0 <= at < len(wanted.states):
                self.assertEqual(getattr(ledger, word)(), wanted.states[max(at, wanted.at)][0])
                wanted.at = at
            else:
                self.assertRaises(NoNumber, getattr(ledger, word))
        else:
            change = {"put": (("keep", len(text)), ("put", "x")), "none": nothing(len(text)),
                      "drop": (("drop", text[:1]), ("keep", len(text) - 1))}[word if text else "none"]
            wanted.add("write", wanted.rows() + [(own, change)])
            self.assertEqual(ledger.write(own, change), wanted.told()[0])

    def test_many_orders_of_steps(self):
        steps = (("put", "p"), ("put", "q"), ("drop", "p"), ("none", "q"), ("fold", ""), ("back", ""), ("forth", ""))
        for order in itertools.product(steps, repeat=5):
            ledger, wanted = Ledger("a"), Wanted("a")
            for word, own in order:
                self.step(ledger, wanted, word, own)
            self.assertEqual(all_of(ledger), wanted.told(), order)

    def test_back_to_the_first_and_forth_to_the_last(self):
        steps = (("put", "p"), ("put", "q"), ("drop", "p"), ("fold", ""), ("back", ""))
        for order in itertools.product(steps, repeat=4):
            ledger, wanted = Ledger("a"), Wanted("a")
            for word, own in order:
                self.step(ledger, wanted, word, own)
            for word in ("back", "forth", "back", "forth"):
                for step in range(5):
                    self.step(ledger, wanted, word, "")
                    self.assertEqual(all_of(ledger), wanted.told(), order)

    def test_twins_go_by_themselves(self):
        steps = (("put", "p"), ("drop", "q"), ("fold", ""), ("back", ""), ("forth", ""))
        for begun in itertools.product(steps, repeat=3):
            for order in itertools.product(steps, repeat=2):
                ledger, wanted = Ledger("a"), Wanted("a")
                for word, own in begun:
                    self.step(ledger, wanted, word, own)
                twin, also = ledger.twin(), Wanted("a")
                also.states, also.at = list(wanted.states), wanted.at
                self.step(ledger, wanted, *order[0])
                self.step(twin, also, *order[1])
                self.step(ledger, wanted, "back", "")
                self.step(twin, also, "forth", "")
                self.assertEqual(all_of(ledger), wanted.told(), (begun, order))
                self.assertEqual(all_of(twin), also.told(), (begun, order))


if __name__ == "__main__":
    unittest.main()
