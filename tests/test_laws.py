"""[0.2] (a) and (b), of all small changes and texts."""

import unittest

from helper import is_in_form, made_of, small_changes, small_texts
from pastways.changes import form
from pastways.doing import all_then, done, fits, then, undone
from pastways.errors import NoFit

TEXTS = small_texts(6)


def seen(change):
    """What the program makes of each small text; None, where the change does not fit."""
    return tuple([done(change, text) if fits(change, text) else None for text in TEXTS])


def put_behind(one, other):
    """What then tells; None, where it tells NoFit."""
    try:
        return then(one, other)
    except NoFit:
        return None


class LawsTest(unittest.TestCase):
    def test_done_is_sign_by_sign(self):
        for change in small_changes(3):
            self.assertEqual(seen(change), tuple([made_of(change, text) for text in TEXTS]))

    def test_alike_just_if_the_forms_are_the_same(self):
        # Two signs part any two changes that are not alike, and no small text is too short for three parts.
        by_form = {}
        by_doing = {}
        for change in small_changes(3):
            by_form.setdefault(form(change), set()).add(change)
            by_doing.setdefault(seen(change), set()).add(change)
        self.assertEqual(sorted(map(sorted, by_form.values())), sorted(map(sorted, by_doing.values())))

    def test_undone_each_text_is_as_it_was(self):
        for change in small_changes(3):
            back = undone(change)
            self.assertTrue(is_in_form(back))
            self.assertEqual(undone(back), form(change))
            for text in TEXTS:
                if fits(change, text):
                    self.assertEqual(done(back, done(change, text)), text)

    def test_undone_fits_just_what_the_change_makes(self):
        for change in small_changes(2):
            made = {done(change, text) for text in TEXTS if fits(change, text)}
            self.assertEqual({text for text in TEXTS if fits(undone(change), text)}, made)

    def test_behind_one_another_as_one_by_one(self):
        texts = small_texts(4)
        for one in small_changes(2):
            for other in small_changes(2):
                steps = [made_of(other, made) if made is not None else None
                         for made in [made_of(one, text) for text in texts]]
                told = put_behind(one, other)
                if told is None:
                    self.assertEqual(set(steps), {None}, (one, other))
                else:
                    self.assertTrue(is_in_form(told), (one, other))
                    self.assertEqual([made_of(told, text) for text in texts], steps, (one, other))
                    self.assertNotEqual(set(steps), {None}, (one, other))

    def test_rows_as_two_by_two(self):
        changes = [change for change in small_changes(2) if fits(change, "ab")]
        rows = [[one, other, undone(other)] for one in changes for other in small_changes(2)
                if fits(other, done(one, "ab"))]
        self.assertTrue(rows)
        for row in rows:
            told = all_then(2, row)
            self.assertEqual(done(told, "ab"), done(row[0], "ab"))
            self.assertEqual(told, then(row[0], then(row[1], row[2])))


if __name__ == "__main__":
    unittest.main()
