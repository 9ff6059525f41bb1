"""[8.1] and [0.2] (e): books, in which any change can be taken back."""

import itertools
import unittest

from helper import is_in_form, led, made_of, small_rows
from pastways.books import Book
from pastways.doing import all_then, nothing, undone
from pastways.errors import NoFit, NoNumber
from pastways.passing import rows_past


def all_of(book):
    """All that a book tells."""
    changes = book.changes()
    texts = [book.text_at(many) for many in range(len(changes) + 1)]
    return changes, texts, book.text(), book.taken_back(), book.whole()


def book_of(text, rows):
    book = Book(text)
    for change in rows:
        book.do(change)
    return book


# Of abc they make xabc, xac, xacy.
ROWS = [(("put", "x"), ("keep", 3)), (("keep", 2), ("drop", "b"), ("keep", 1)), (("keep", 3), ("put", "y"))]


class BookTest(unittest.TestCase):
    def refused(self, book, error, method, what):
        """The refusal is of this class, and changes nothing."""
        was = all_of(book)
        with self.subTest(method=method, what=what):
            self.assertRaises(error, getattr(book, method), what)
            self.assertEqual(all_of(book), was)

    def test_without_changes(self):
        for text in ("", "a b"):
            book = Book(text)
            self.assertEqual(all_of(book), ([], [text], text, [], nothing(len(text))))
            for number in (-2, -1, 0, 1):
                self.refused(book, NoNumber, "take_back", number)
            for many in (-1, 1):
                self.refused(book, NoNumber, "text_at", many)

    def test_do_tells_numbers_from_0_on(self):
        book = Book("abc")
        self.assertEqual([book.do(change) for change in ROWS], [0, 1, 2])
        self.assertEqual(book.text(), "xacy")
        self.assertEqual(book.changes(), ROWS)
        self.assertEqual(book.taken_back(), [])

    def test_do_refuses_what_does_not_fit(self):
        book = book_of("abc", ROWS)
        for change in (nothing(3), nothing(5), (), (("drop", "a"), ("keep", 3)), (("keep", 4), ("drop", "y"))):
            self.refused(book, NoFit, "do", change)
        self.refused(Book(""), NoFit, "do", (("keep", 1),))

    def test_text_at(self):
        book = book_of("abc", ROWS)
        self.assertEqual([book.text_at(many) for many in range(4)], ["abc", "xabc", "xac", "xacy"])
        for many in (-4, -3, -2, -1, 4, 5):
            self.refused(book, NoNumber, "text_at", many)

    def test_whole(self):
        book = book_of("abc", ROWS)
        self.assertEqual(book.whole(), (("put", "x"), ("keep", 1), ("drop", "b"), ("keep", 1), ("put", "y")))
        book.take_back(1)
        self.assertEqual(book.whole(),
                         (("put", "x"), ("keep", 1), ("drop", "b"), ("put", "b"), ("keep", 1), ("put", "y")))

    def test_the_last_change_taken_back(self):
        book = book_of("abc", ROWS)
        self.assertEqual(book.take_back(2), 3)
        self.assertEqual(book.text(), "xac")
        self.assertEqual(book.changes()[3], (("keep", 3), ("drop", "y")))
        self.assertEqual(book.taken_back(), [2])

    def test_a_middle_change_taken_back(self):
        book = book_of("abc", ROWS)
        self.assertEqual(book.take_back(1), 3)
        self.assertEqual(book.text(), "xabcy")
        self.assertEqual(book.changes()[3], (("keep", 2), ("put", "b"), ("keep", 2)))
        self.assertEqual(book.taken_back(), [1])

    def test_the_first_change_taken_back(self):
        book = book_of("abc", ROWS)
        self.assertEqual(book.take_back(0), 3)
        self.assertEqual(book.text(), "acy")
        self.assertEqual(book.changes()[3], (("drop", "x"), ("keep", 3)))
        self.assertEqual(book.taken_back(), [0])

    def test_all_taken_back_in_any_order(self):
        for order in itertools.permutations(range(3)):
            book = book_of("abc", ROWS)
            self.assertEqual([book.take_back(number) for number in order], [3, 4, 5])
            self.assertEqual(book.text(), "abc")
            self.assertEqual(book.taken_back(), [0, 1, 2])
            self.assertEqual([book.text_at(many) for many in range(4)], ["abc", "xabc", "xac", "xacy"])

    def test_what_takes_back_taken_back(self):
        book = book_of("abc", ROWS)
        self.assertEqual([book.take_back(number) for number in (0, 3, 4, 5)], [3, 4, 5, 6])
        self.assertEqual([book.text_at(many) for many in range(4, 8)], ["acy", "xacy", "acy", "xacy"])
        self.assertEqual(book.taken_back(), [0, 3, 4, 5])

    def test_taken_back_but_once(self):
        book = book_of("abc", ROWS)
        book.take_back(1)
        self.refused(book, NoNumber, "take_back", 1)
        # Also where what took it back was taken back.
        book.take_back(3)
        self.assertEqual(book.text(), "xacy")
        self.refused(book, NoNumber, "take_back", 1)
        self.refused(book, NoNumber, "take_back", 3)
        self.assertEqual(book.take_back(4), 5)

    def test_no_such_number(self):
        book = book_of("abc", ROWS)
        for number in (-4, -3, -2, -1, 3, 4, 99):
            self.refused(book, NoNumber, "take_back", number)

    def test_its_signs_are_ahead(self):
        # What was dropped comes back ahead of what was put there since.
        book = book_of("a", [(("drop", "a"),), (("put", "z"),)])
        book.take_back(0)
        self.assertEqual(book.text(), "az")
        self.assertEqual(book.changes()[2], (("put", "a"), ("keep", 1)))
        book = book_of("pabq", [(("keep", 1), ("drop", "ab"), ("keep", 1)), (("keep", 1), ("put", "x"), ("keep", 1)),
                                (("keep", 1), ("put", "y"), ("keep", 2))])
        book.take_back(0)
        self.assertEqual(book.text(), "pabyxq")

    def test_what_was_dropped_since_is_not_there_any_more(self):
        book = book_of("", [(("put", "ab"),), (("drop", "a"), ("keep", 1))])
        self.assertEqual(book.take_back(0), 2)
        self.assertEqual(book.changes()[2], (("drop", "b"),))
        self.assertEqual(book.text(), "")
        self.assertEqual(book.take_back(1), 3)
        self.assertEqual(book.text(), "a")

    def test_a_sign_that_was_put_again_is_another_one(self):
        # What takes back the drop puts a sign of its own, which undoing the first put does not drop.
        book = book_of("", [(("put", "a"),), (("drop", "a"),)])
        self.assertEqual([book.take_back(number) for number in (1, 0)], [2, 3])
        self.assertEqual(book.changes()[2:], [(("put", "a"),), (("keep", 1),)])
        self.assertEqual(book.text(), "a")

    def test_a_change_that_does_nothing(self):
        book = book_of("", [(), (("put", "a"),), (("keep", 1),)])
        self.assertEqual([book.take_back(number) for number in (0, 2)], [3, 4])
        self.assertEqual(book.changes()[3:], [(("keep", 1),), (("keep", 1),)])
        self.assertEqual(book.text(), "a")

    def test_changes_stand_as_handed_in(self):
        change = (("put", "x"), ("drop", "a"), ("keep", 1), ("keep", 1))
        book = book_of("abc", [change])
        self.assertEqual(book.changes(), [change])
        book.take_back(0)
        self.assertEqual(book.changes(), [change, (("drop", "x"), ("put", "a"), ("keep", 2))])
        self.assertTrue(is_in_form(book.whole()))

    def test_more_parts_and_signs(self):
        change = (("keep", 120), ("drop", "abcdefghij"), ("put", "zyxwvutsrqp")) * 9
        text = ("m" * 120 + "abcdefghij") * 9
        book = book_of(text, [change, (("put", "q"), ("keep", 131 * 9))])
        book.take_back(0)
        self.assertEqual(book.text(), "q" + text)

    def test_told_lists_are_new_ones(self):
        book = book_of("abc", ROWS)
        book.take_back(1)
        was = all_of(book)
        book.changes().clear()
        book.changes().append(None)
        book.taken_back().append(0)
        book.taken_back().clear()
        self.assertEqual(all_of(book), was)
        self.assertIsNot(book.changes(), book.changes())

    def test_each_book_goes_by_itself(self):
        one, other = Book("abc"), Book("abc")
        one.do(ROWS[0])
        one.take_back(0)
        self.assertEqual(all_of(other), ([], ["abc"], "abc", [], nothing(3)))


class BookLawsTest(unittest.TestCase):
    def told_right(self, text, book):
        """The texts are those that the changes make, and the whole does as they do one by one."""
        changes = book.changes()
        for number, change in enumerate(changes):
            self.assertEqual(book.text_at(number + 1), made_of(change, book.text_at(number)))
        self.assertEqual(book.text_at(0), text)
        self.assertEqual(book.text(), book.text_at(len(changes)))
        self.assertEqual(book.whole(), all_then(len(text), changes))
        self.assertEqual(made_of(book.whole(), text), book.text())

    def test_as_if_undone_at_once_and_later_ones_led_past_that(self):
        for text in ("", "a", "ab"):
            for row in small_rows(text, 3):
                for number, change in enumerate(row):
                    book = book_of(text, row)
                    book.take_back(number)
                    # Sign by sign, straight from [3.1].
                    back = undone(change)
                    now = made_of(back, book.text_at(number + 1))
                    self.assertEqual(now, book.text_at(number))
                    for later in row[number + 1:]:
                        now = made_of(led(later, back, False), now)
                        back = led(back, later, True)
                    self.assertEqual(book.changes(), row + [back], (row, number))
                    self.assertEqual(book.text(), now, (row, number))
                    self.assertEqual(rows_past([undone(change)], row[number + 1:])[0], [back])

    def test_many_orders_of_steps(self):
        steps = (("do", lambda text: (("put", "x"), ("keep", len(text)))),
                 ("do", lambda text: (("keep", len(text)), ("put", "y"))),
                 ("do", lambda text: (("drop", text[:1]), ("keep", len(text) - 1)) if text else ()),
                 ("back", 0), ("back", 1), ("back", 2))
        for order in itertools.product(steps, repeat=5):
            book = Book("ab")
            gone = []
            many = 0
            for word, what in order:
                if word == "do":
                    self.assertEqual(book.do(what(book.text())), many)
                    many += 1
                elif what < many and what not in gone:
                    self.assertEqual(book.take_back(what), many)
                    gone.append(what)
                    many += 1
                else:
                    self.assertRaises(NoNumber, book.take_back, what)
            self.assertEqual(len(book.changes()), many)
            self.assertEqual(book.taken_back(), sorted(gone))
            self.told_right("ab", book)

    def test_all_changes_of_a_row_taken_back(self):
        for row in small_rows("ab", 2):
            for order in ((0, 1), (1, 0)):
                book = book_of("ab", row)
                for number in order:
                    book.take_back(number)
                self.told_right("ab", book)
                self.assertEqual(book.taken_back(), [0, 1])


if __name__ == "__main__":
    unittest.main()
