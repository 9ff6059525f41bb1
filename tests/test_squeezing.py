"""[12.1] and [0.2] (i): owned changes, as few as can be."""

import copy
import itertools
import random
import unittest

from helper import is_in_form, owned_rows, signs_of
from pastways.changes import cost
from pastways.doing import all_then, nothing
from pastways.errors import NoFit
from pastways.owners import owners
from pastways.squeezing import squeezed


class SqueezedTest(unittest.TestCase):
    def told(self, rows, wanted):
        with self.subTest(rows=rows):
            handed = copy.deepcopy(rows)
            self.assertEqual(squeezed(rows), wanted)
            self.assertEqual(rows, handed)

    def test_no_owned_changes(self):
        self.told([], [])

    def test_neighbours_of_one_own(self):
        self.told([("ann", (("put", "a"), ("keep", 1))), ("ann", (("keep", 2), ("put", "b")))],
                  [("ann", (("put", "a"), ("keep", 1), ("put", "b")))])
        self.told([("ann", (("put", "a"),)), ("ann", (("keep", 1), ("put", "b"))), ("ann", (("drop", "a"), ("keep", 1)))],
                  [("ann", (("put", "b"),))])

    def test_neighbours_of_unlike_ones(self):
        rows = [("ann", (("put", "a"),)), ("bob", (("keep", 1), ("put", "b"))), ("ann", (("drop", "a"), ("keep", 1)))]
        self.told(rows, rows)

    def test_one_own_alone(self):
        self.told([("ann", (("put", "a"),))], [("ann", (("put", "a"),))])
        self.told([("ann", (("put", "a"),)), ("ann", nothing(1)), ("ann", (("put", "b"), ("keep", 1)))],
                  [("ann", (("put", "ba"),))])

    def test_several_stretches(self):
        self.told([("ann", (("put", "a"),)), ("ann", (("keep", 1), ("put", "b"))),
                   ("bob", (("keep", 2), ("put", "c"))), ("bob", (("keep", 3), ("put", "d"))),
                   ("ann", (("put", "z"), ("keep", 4)))],
                  [("ann", (("put", "ab"),)), ("bob", (("keep", 2), ("put", "cd"))), ("ann", (("put", "z"), ("keep", 4)))])

    def test_each_in_its_form(self):
        self.told([("ann", (("put", "x"), ("drop", "a"), ("keep", 1), ("keep", 1)))],
                  [("ann", (("drop", "a"), ("put", "x"), ("keep", 2)))])

    def test_what_does_nothing_at_first(self):
        self.told([("ann", nothing(1))], [])
        self.told([("ann", ())], [])
        self.told([("ann", nothing(1)), ("bob", (("drop", "a"),))], [("bob", (("drop", "a"),))])
        self.told([("ann", nothing(1)), ("ann", (("put", "x"), ("drop", "a")))], [("ann", (("drop", "a"), ("put", "x")))])

    def test_what_does_nothing_between_two_of_one_own(self):
        for between in ("ann", "bob"):
            self.told([("ann", (("put", "a"),)), (between, nothing(1)), ("ann", (("keep", 1), ("put", "b")))],
                      [("ann", (("put", "ab"),))])

    def test_what_does_nothing_behind_one_another(self):
        self.told([("ann", (("put", "a"),)), ("bob", nothing(1)), ("bob", nothing(1)), ("cy", nothing(1)),
                   ("ann", (("keep", 1), ("put", "b")))], [("ann", (("put", "ab"),))])
        self.told([("ann", ()), ("ann", ()), ("bob", ()), ("ann", ())], [])

    def test_what_does_nothing_at_last(self):
        self.told([("ann", (("put", "a"),)), ("bob", nothing(1))], [("ann", (("put", "a"),))])

    def test_two_of_one_own_that_come_to_nothing_together(self):
        self.told([("ann", (("put", "a"),)), ("ann", (("drop", "a"),))], [])
        # What stood around them comes together then.
        self.told([("bob", (("put", "b"),)), ("ann", (("keep", 1), ("put", "a"))), ("ann", (("keep", 1), ("drop", "a"))),
                   ("bob", (("keep", 1), ("put", "c")))], [("bob", (("put", "bc"),))])
        self.told([("ann", (("put", "a"),)), ("ann", (("drop", "a"),)), ("ann", (("put", "b"),))],
                  [("ann", (("put", "b"),))])
        self.told([("cy", (("put", "z"),)), ("bob", (("keep", 1), ("put", "b"))), ("ann", (("keep", 2), ("put", "a"))),
                   ("ann", (("keep", 2), ("drop", "a"))), ("bob", (("keep", 1), ("drop", "b"))),
                   ("cy", (("drop", "z"),))], [])

    def test_what_is_dropped_and_put_again_is_something(self):
        self.told([("ann", (("drop", "a"),)), ("ann", (("put", "a"),))], [("ann", (("drop", "a"), ("put", "a")))])

    def test_what_comes_to_nothing_by_two_stays(self):
        rows = [("ann", (("put", "a"),)), ("bob", (("drop", "a"),))]
        self.told(rows, rows)

    def test_more_parts_and_signs(self):
        change = (("keep", 120), ("put", "abcdefghij")) * 9
        back = (("keep", 120), ("drop", "abcdefghij")) * 9
        self.told([("ann", change), ("bob", (("put", "x"), ("keep", 1170)))],
                  [("ann", change), ("bob", (("put", "x"), ("keep", 1170)))])
        self.told([("ann", change), ("ann", back)], [])

    def test_no_fit_where_then_tells_it(self):
        for rows in ([("ann", nothing(1)), ("ann", (("put", "a"),)), ("ann", nothing(2))],
                     [("ann", (("put", "a"),)), ("ann", (("drop", "b"),))],
                     [("ann", (("put", "a"),)), ("bob", nothing(1)), ("ann", (("drop", "b"),))],
                     [("bob", (("put", "z"),)), ("ann", (("put", "a"), ("keep", 1))), ("ann", nothing(3))]):
            with self.subTest(rows=rows):
                handed = copy.deepcopy(rows)
                self.assertRaises(NoFit, squeezed, rows)
                self.assertEqual(rows, handed)

    def test_none_where_then_is_not_asked(self):
        rows = [("ann", (("put", "a"),)), ("bob", (("drop", "bc"),))]
        self.told(rows, rows)

    def test_told_lists_are_new_ones(self):
        rows = [("ann", (("put", "a"),)), ("bob", (("keep", 1), ("put", "b")))]
        told = squeezed(rows)
        self.assertIsNot(told, rows)
        told.clear()
        self.assertEqual(squeezed(rows), rows)
        self.assertEqual(len(rows), 2)


class SqueezedLawsTest(unittest.TestCase):
    def squeezed_right(self, text, rows):
        told = squeezed(rows)
        self.assertLessEqual(len(told), len(rows))
        standing = signs_of(text, rows)[0]
        self.assertEqual(signs_of(text, told)[0], standing, (text, rows))
        self.assertEqual(owners(text, told), owners(text, rows), (text, rows))
        self.assertEqual(squeezed(told), told, (text, rows))
        names = [own for own, change in told]
        self.assertTrue(all(one != other for one, other in zip(names, names[1:])), (text, rows))
        self.assertTrue(all(is_in_form(change) and cost(change) > 0 for own, change in told), (text, rows))
        self.assertEqual(all_then(len(text), [change for own, change in told]),
                         all_then(len(text), [change for own, change in rows]), (text, rows))

    def test_all_small_rows(self):
        for text in ("", "a", "ab"):
            for many in (1, 2):
                for rows in owned_rows(text, many, ("p", "q")):
                    self.squeezed_right(text, rows)
        for rows in owned_rows("a", 3, ("p", "q")):
            self.squeezed_right("a", rows)

    def test_long_rows(self):
        source = random.Random(12)
        for number in range(400):
            text = "ab"
            rows = []
            for step in range(12):
                now = "".join([sign for sign, own in signs_of(text, rows)[0]])
                half = source.randrange(len(now) + 1)
                kept = ("keep", len(now) - half)
                changes = ((("keep", half), ("put", source.choice("xy")), kept), (("keep", half), kept),
                           (("drop", now[:half]), kept))
                rows.append((source.choice("pq"), tuple(part for part in source.choice(changes) if part[1])))
            self.squeezed_right(text, rows)

    def test_all_orders_of_few_steps(self):
        # Each puts a sign at the end, or drops it, or does nothing.
        for order in itertools.product(itertools.product("pq", ("put", "drop", "none")), repeat=4):
            many = 1
            rows = []
            for own, word in order:
                if word == "put":
                    rows.append((own, (("keep", many), ("put", "x"))))
                    many += 1
                elif word == "drop" and many > 1:
                    many -= 1
                    rows.append((own, (("keep", many), ("drop", "x"))))
                else:
                    rows.append((own, nothing(many)))
            self.squeezed_right("a", rows)


if __name__ == "__main__":
    unittest.main()
