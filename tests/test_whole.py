"""What holds over the whole program: [0.3], what is told and what is handed in; [1.2], all changes told are in the form;
and [0.2] where several modules come together."""

import copy
import random
import unittest

from helper import is_in_form, small_changes
from pastways.books import Book
from pastways.changes import before, form, is_change
from pastways.deciding import all_fit, alike, parting
from pastways.doing import all_then, done, nothing, then, undone
from pastways.errors import NoFit, WayError
from pastways.ledgers import Ledger
from pastways.making import apart, least_change
from pastways.middles import Hand, Middle, meet
from pastways.ownedtexts import owned_text, read_owned
from pastways.owners import lost, owners, shares
from pastways.parts import cut, drops_of, joined, only, puts_of, singles
from pastways.passing import clashing, merged, past, rows_past
from pastways.places import of_touched, touched
from pastways.squeezing import squeezed
from pastways.texts import read_change, read_rows, rows_text

# Neither stands in its form; of abc the first makes axc, of axc the second makes yc.
RAW = (("keep", 1), ("put", "x"), ("drop", "b"), ("keep", 1))
NEXT = (("put", "y"), ("drop", "a"), ("drop", "x"), ("keep", 1))
CHANGES = [RAW, NEXT]
OWNED = [("ann", RAW), ("bob", NEXT)]

# Each function that takes or tells a list, with what it is handed.
CALLS = (
    (all_then, 3, CHANGES), (rows_past, CHANGES, CHANGES), (rows_past, CHANGES, []), (rows_past, [], CHANGES),
    (clashing, (("drop", "ab"),), (("drop", "ba"),)), (touched, RAW), (of_touched, 3, [(0, "a", "x"), (2, "", "y")]),
    (singles, RAW), (all_fit, [RAW, nothing(3)]), (rows_text, CHANGES), (read_rows, "=1\n+a\n"), (read_rows, ""),
    (owners, "abc", OWNED), (owners, "abc", []), (shares, "abc", OWNED), (lost, "abc", OWNED), (squeezed, OWNED),
    (squeezed, []), (owned_text, OWNED), (read_owned, "ann: =1\n"), (read_owned, ""),
)
# Each function that takes a list, with what it refuses.
REFUSED = (
    (all_then, 2, CHANGES), (all_then, 3, CHANGES[::-1]), (rows_past, CHANGES, [nothing(2)]),
    (rows_past, CHANGES, [(("drop", "zzz"),)]), (owners, "ab", OWNED), (shares, "ab", OWNED), (lost, "abc", OWNED[::-1]),
    (squeezed, [("ann", RAW), ("ann", RAW)]),
)


def spoil(told):
    """Change each list that is told, as whoever gets it may."""
    for rows in told if isinstance(told, tuple) else (told,):
        if isinstance(rows, list):
            rows.append("spoilt")
            rows.reverse()


class HandedAndToldTest(unittest.TestCase):
    def test_told_lists_are_new_ones(self):
        for function, *handed in CALLS:
            with self.subTest(function=function.__name__, handed=handed):
                told = function(*handed)
                wanted = copy.deepcopy(told)
                spoil(told)
                self.assertEqual(function(*handed), wanted)

    def test_what_is_handed_in_is_not_changed(self):
        for function, *handed in CALLS:
            with self.subTest(function=function.__name__, handed=handed):
                was = copy.deepcopy(handed)
                spoil(function(*handed))
                self.assertEqual(handed, was)

    def test_what_is_refused_changes_nothing(self):
        for function, *handed in REFUSED:
            with self.subTest(function=function.__name__, handed=handed):
                was = copy.deepcopy(handed)
                self.assertRaises(WayError, function, *handed)
                self.assertEqual(handed, was)

    def test_lists_told_by_objects(self):
        book, middle, ledger = Book("abc"), Middle("abc"), Ledger("abc")
        for own, change in OWNED:
            book.do(change)
            middle.take(own, middle.many(), change)
            ledger.write(own, change)
        book.take_back(0)
        for tell in (book.changes, book.taken_back, lambda: middle.behind(0), lambda: middle.behind(1), ledger.entries):
            wanted = copy.deepcopy(tell())
            spoil(tell())
            tell().clear()
            self.assertEqual(tell(), wanted)
        self.assertEqual([book.text(), middle.text(), ledger.text()], ["byc", "yc", "yc"])

    def test_a_list_that_was_told_is_no_part_of_what_is_told_later(self):
        ledger = Ledger("abc")
        ledger.write(*OWNED[0])
        entries = ledger.entries()
        ledger.write(*OWNED[1])
        self.assertEqual(entries, OWNED[:1])
        entries.append(None)
        ledger.back()
        self.assertEqual(ledger.entries(), OWNED[:1])
        middle = Middle("abc")
        rows = middle.behind(0)
        middle.take("ann", 0, RAW)
        self.assertEqual(rows, [])


class InFormTest(unittest.TestCase):
    def told_of(self, change):
        """All changes that are told of one alone."""
        many = before(change)
        text = all_fit([change])
        made = done(change, text)
        told = [form(change), undone(change), then(change, undone(change)), all_then(many, [change]),
                past(change, nothing(many), True), past(nothing(many), change, True), merged(change, change),
                of_touched(many, touched(change)), drops_of(change), puts_of(change), joined(change, change),
                only(change, 0, many), apart(text, made), least_change(text, made)]
        told += rows_past([change], [change])[0] + rows_past([change], [change])[1] + rows_past([change], [])[0]
        told += list(cut(change, many // 2)) + singles(change)
        book = Book(text)
        book.do(change)
        book.take_back(0)
        hand = Hand("ann", text)
        hand.do(change)
        hand.take("bob", nothing(many))
        middle = Middle(text)
        middle.take("bob", 0, nothing(many))
        middle.take("ann", 0, change)
        ledger = Ledger(text)
        ledger.write("ann", change)
        ledger.fold()
        told += [book.changes()[1], book.whole(), hand.send()[1], middle.behind(1)[0][1]]
        return told + [row[1] for row in squeezed([("ann", change)]) + ledger.entries()]

    def test_all_changes_told_are_in_the_form(self):
        for change in small_changes(3):
            for told in self.told_of(change):
                self.assertTrue(is_in_form(told), (change, told))

    def test_but_those_handed_in_that_nothing_was_done_to(self):
        book, middle, hand, ledger = Book("abc"), Middle("abc"), Hand("ann", "abc"), Ledger("abc")
        book.do(RAW)
        hand.do(RAW)
        ledger.write("ann", RAW)
        known, change = hand.send()
        middle.take("ann", known, change)
        self.assertEqual([book.changes()[0], change, middle.behind(0)[0][1], ledger.entries()[0][1]], [RAW] * 4)


class TogetherTest(unittest.TestCase):
    """A middle's changes are owned ones, so that all that is told of these holds of them."""

    def rows_of(self, source):
        """A text, and what a middle did to it for three hands that met in some order."""
        middle = Middle("abab")
        hands = {own: Hand(own, "abab") for own in "xyz"}
        for step in range(25):
            own = source.choice("xyz")
            text = hands[own].text()
            half = source.randrange(len(text) + 1)
            first = source.choice(((("keep", half), ("put", own)), (("keep", half), ("put", own)), (("drop", text[:half]),)))
            if source.randrange(3) == 0:
                meet(middle, hands[own])
            else:
                hands[own].do(tuple(part for part in first + (("keep", len(text) - half),) if part[1]))
        for own in "xyzxyz":
            meet(middle, hands[own])
        self.assertEqual({hand.text() for hand in hands.values()}, {middle.text()})
        return "abab", middle.behind(0), middle.text()

    def test_owners_ledgers_and_texts_of_a_middle(self):
        source = random.Random(5)
        for number in range(200):
            text, rows, made = self.rows_of(source)
            # Each hand puts the sign that is its name.
            self.assertEqual(owners(text, rows), [sign if sign in "xyz" else None for sign in made])
            self.assertEqual(shares(text, rows), [(own, made.count(own)) for own in "xyz" if own in made])
            ledger = Ledger(text)
            for own, change in rows:
                ledger.write(own, change)
            self.assertEqual(len(rows) - len(squeezed(rows)), ledger.fold())
            self.assertEqual((ledger.text(), ledger.entries()), (made, squeezed(rows)))
            self.assertEqual([ledger.owner_at(place) for place in range(len(made))], owners(text, rows))
            read = [(own, change) for own, change in rows if is_change(change)]
            self.assertGreater(len(read), 0)
            self.assertEqual(read_owned(owned_text(read)), read)

    def test_a_book_of_a_middles_changes(self):
        source = random.Random(6)
        for number in range(100):
            text, rows, made = self.rows_of(source)
            book = Book(text)
            for own, change in rows:
                book.do(change)
            self.assertEqual(book.text(), made)
            self.assertTrue(alike(book.whole(), all_then(len(text), [change for own, change in rows])))
            self.assertIsNone(parting(book.whole(), then(book.whole(), nothing(len(made)))))
            # What takes back the last one, taken back itself, and so on, comes to two texts in turn.
            for many in range(len(rows), len(rows) + 5):
                self.assertEqual(book.take_back(many - 1), many)
                self.assertEqual(book.text(), book.text_at(many - 1))
            self.assertRaises(NoFit, book.do, nothing(len(book.text()) + 1))

    def test_read_changes_are_done(self):
        self.assertEqual(done(read_change("=1/+x/-b/=1"), "abc"), "axc")
        self.assertEqual(all_then(3, read_rows("=1/+x/-b/=1\n+y/-a/-x/=1\n")), then(RAW, NEXT))


if __name__ == "__main__":
    unittest.main()
