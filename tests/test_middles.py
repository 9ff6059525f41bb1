"""[9.1], [9.2], [9.3] and [0.2] (f): a middle and hands that change one text at the same time."""

import itertools
import random
import unittest

from helper import is_in_form, led, made_of
from pastways.changes import form
from pastways.doing import nothing
from pastways.errors import Clash, NoFit, NoNumber
from pastways.middles import Hand, Middle, meet


def all_of(middle):
    """All that a middle tells."""
    return middle.text(), middle.many(), middle.behind(0)


class MiddleTest(unittest.TestCase):
    def refused(self, middle, error, method, *what):
        """The refusal is of this class, and changes nothing."""
        was = all_of(middle)
        with self.subTest(method=method, what=what):
            self.assertRaises(error, getattr(middle, method), *what)
            self.assertEqual(all_of(middle), was)

    def test_nothing_done(self):
        for text in ("", "a b"):
            self.assertEqual(all_of(Middle(text)), (text, 0, []))

    def test_ordinary(self):
        middle = Middle("abc")
        self.assertEqual(middle.take("ann", 0, (("put", "x"), ("keep", 3))), 0)
        self.assertEqual(middle.text(), "xabc")
        # Known 0, all, and some.
        self.assertEqual(middle.take("bob", 0, (("keep", 3), ("put", "y"))), 1)
        self.assertEqual(middle.text(), "xabcy")
        self.assertEqual(middle.take("ann", 2, (("keep", 5), ("put", "z"))), 2)
        self.assertEqual(middle.text(), "xabcyz")
        self.assertEqual(middle.take("cy", 1, (("keep", 1), ("drop", "a"), ("keep", 2))), 3)
        self.assertEqual(middle.text(), "xbcyz")
        self.assertEqual(middle.many(), 4)
        rows = [("ann", (("put", "x"), ("keep", 3))), ("bob", (("keep", 4), ("put", "y"))),
                ("ann", (("keep", 5), ("put", "z"))), ("cy", (("keep", 1), ("drop", "a"), ("keep", 4)))]
        for known in range(5):
            self.assertEqual(middle.behind(known), rows[known:])

    def test_signs_of_those_done_since_are_ahead(self):
        middle = Middle("pq")
        for own in ("a", "b", "c"):
            middle.take(own, 0, (("keep", 1), ("put", own), ("keep", 1)))
        self.assertEqual(middle.text(), "pabcq")
        self.assertEqual(middle.behind(2), [("c", (("keep", 3), ("put", "c"), ("keep", 1)))])

    def test_led_past_them_in_their_order(self):
        # The first one's sign is dropped by the second, so only one after the other tells where the third comes.
        middle = Middle("")
        middle.take("ann", 0, (("put", "ab"),))
        middle.take("ann", 1, (("drop", "a"), ("put", "x"), ("keep", 1)))
        self.assertEqual(middle.take("bob", 0, (("put", "z"),)), 2)
        self.assertEqual(middle.text(), "xbz")

    def test_what_both_drop_is_dropped_once(self):
        middle = Middle("abc")
        middle.take("ann", 0, (("drop", "ab"), ("keep", 1)))
        middle.take("bob", 0, (("keep", 1), ("drop", "bc")))
        self.assertEqual(middle.text(), "")
        self.assertEqual(middle.behind(1), [("bob", (("drop", "c"),))])

    def test_one_own_past_its_own(self):
        middle = Middle("")
        middle.take("ann", 0, (("put", "a"),))
        middle.take("ann", 0, (("put", "b"),))
        self.assertEqual(middle.text(), "ab")

    def test_changes_that_nothing_was_done_to_stand_as_handed_in(self):
        change = (("put", "x"), ("drop", "a"), ("keep", 1), ("keep", 1))
        middle = Middle("abc")
        middle.take("ann", 0, change)
        middle.take("bob", 0, (("keep", 1), ("put", "y"), ("drop", "b"), ("keep", 1)))
        self.assertEqual(middle.behind(0)[0], ("ann", change))
        self.assertEqual(middle.behind(1), [("bob", (("keep", 1), ("drop", "b"), ("put", "y"), ("keep", 1)))])
        self.assertEqual(middle.text(), "xyc")

    def test_no_such_number(self):
        middle = Middle("a")
        for change in ((("put", "x"), ("keep", 1)), (("put", "y"), ("keep", 2))):
            middle.take("ann", middle.many(), change)
        for known in (-3, -2, -1, 3, 4):
            self.refused(middle, NoNumber, "behind", known)
            self.refused(middle, NoNumber, "take", "bob", known, nothing(3))
        self.refused(Middle(""), NoNumber, "take", "bob", 1, ())
        self.refused(Middle(""), NoNumber, "behind", 1)

    def test_what_does_not_fit(self):
        middle = Middle("abc")
        self.refused(middle, NoFit, "take", "ann", 0, nothing(2))
        self.refused(middle, NoFit, "take", "ann", 0, (("keep", 2), ("drop", "x")))
        middle.take("ann", 0, (("put", "xy"), ("keep", 3)))
        # Known tells of which text the length and the signs must be.
        self.refused(middle, NoFit, "take", "bob", 0, nothing(5))
        self.refused(middle, NoFit, "take", "bob", 1, nothing(3))
        self.refused(middle, NoFit, "take", "bob", 0, (("drop", "x"), ("keep", 2)))
        self.refused(middle, NoFit, "take", "bob", 1, (("drop", "a"), ("keep", 4)))

    def test_clash(self):
        middle = Middle("ab")
        middle.take("ann", 0, (("put", "x"), ("keep", 2)))
        middle.take("ann", 1, (("keep", 1), ("drop", "a"), ("keep", 1)))
        self.refused(middle, Clash, "take", "bob", 0, (("drop", "b"), ("keep", 1)))
        self.assertEqual(middle.take("bob", 0, (("drop", "a"), ("keep", 1))), 2)
        self.assertEqual(middle.text(), "xb")

    def test_told_lists_are_new_ones(self):
        middle = Middle("a")
        middle.take("ann", 0, (("put", "x"), ("keep", 1)))
        was = all_of(middle)
        for known in (0, 1):
            middle.behind(known).append(None)
            middle.behind(known).clear()
        self.assertEqual(all_of(middle), was)

    def test_each_middle_goes_by_itself(self):
        one, other = Middle("a"), Middle("a")
        one.take("ann", 0, (("drop", "a"),))
        self.assertEqual(all_of(other), ("a", 0, []))


class HandTest(unittest.TestCase):
    def test_nothing_late(self):
        hand = Hand("ann", "abc")
        self.assertEqual(hand.text(), "abc")
        self.assertIs(hand.is_still(), True)
        self.assertIsNone(hand.send())
        self.assertIs(hand.is_still(), True)

    def test_do_is_done_here_and_late(self):
        hand = Hand("ann", "abc")
        self.assertIsNone(hand.do((("put", "x"), ("keep", 3))))
        self.assertEqual(hand.text(), "xabc")
        self.assertIs(hand.is_still(), False)

    def test_what_is_late_is_sent_once(self):
        hand = Hand("ann", "abc")
        hand.do((("put", "x"), ("keep", 3)))
        self.assertEqual(hand.send(), (0, (("put", "x"), ("keep", 3))))
        self.assertIs(hand.is_still(), False)
        self.assertIsNone(hand.send())
        # Also where something is late behind what is on the way.
        hand.do((("keep", 4), ("put", "z")))
        self.assertIsNone(hand.send())
        self.assertEqual(hand.text(), "xabcz")

    def test_late_ones_are_one(self):
        hand = Hand("ann", "abc")
        hand.do((("put", "x"), ("keep", 3)))
        hand.do((("keep", 2), ("drop", "b"), ("keep", 1)))
        hand.do((("keep", 3), ("put", "z")))
        self.assertEqual(hand.send(), (0, (("put", "x"), ("keep", 1), ("drop", "b"), ("keep", 1), ("put", "z"))))
        self.assertIsNone(hand.send())

    def test_late_ones_that_come_to_nothing_are_late(self):
        hand = Hand("ann", "abc")
        hand.do((("put", "x"), ("keep", 3)))
        hand.do((("drop", "x"), ("keep", 3)))
        self.assertIs(hand.is_still(), False)
        self.assertEqual(hand.send(), (0, nothing(3)))

    def test_the_empty_change_is_late_and_on_the_way(self):
        hand = Hand("ann", "")
        hand.do(())
        self.assertIs(hand.is_still(), False)
        self.assertEqual(hand.send(), (0, ()))
        self.assertIs(hand.is_still(), False)
        self.assertIsNone(hand.send())
        hand.do(())
        self.assertIsNone(hand.send())
        self.assertIsNone(hand.take("ann", ()))
        self.assertIs(hand.is_still(), False)
        self.assertEqual(hand.send(), (1, ()))
        hand.take("ann", ())
        self.assertIs(hand.is_still(), True)
        self.assertIsNone(hand.send())

    def test_what_does_not_fit_is_refused_and_changes_nothing(self):
        hand = Hand("ann", "abc")
        for change in (nothing(2), nothing(4), (("drop", "b"), ("keep", 2)), ()):
            self.assertRaises(NoFit, hand.do, change)
            self.assertEqual(hand.text(), "abc")
            self.assertIs(hand.is_still(), True)
            self.assertIsNone(hand.send())
        hand.do((("put", "x"), ("keep", 3)))
        self.assertRaises(NoFit, hand.do, nothing(3))
        self.assertEqual(hand.text(), "xabc")
        self.assertEqual(hand.send(), (0, (("put", "x"), ("keep", 3))))

    def test_its_own_change_comes_back(self):
        hand = Hand("ann", "abc")
        hand.do((("put", "x"), ("keep", 3)))
        hand.send()
        self.assertIsNone(hand.take("ann", (("put", "x"), ("keep", 3))))
        self.assertEqual(hand.text(), "xabc")
        self.assertIs(hand.is_still(), True)
        hand.do((("keep", 4), ("put", "y")))
        self.assertEqual(hand.send(), (1, (("keep", 4), ("put", "y"))))

    def test_another_ones_change_where_nothing_is_late(self):
        hand = Hand("ann", "abc")
        self.assertIsNone(hand.take("bob", (("keep", 1), ("drop", "b"), ("keep", 1))))
        self.assertEqual(hand.text(), "ac")
        self.assertIs(hand.is_still(), True)
        self.assertIsNone(hand.send())
        hand.do((("keep", 2), ("put", "z")))
        self.assertEqual(hand.send(), (1, (("keep", 2), ("put", "z"))))

    def test_another_ones_change_where_something_is_late(self):
        hand = Hand("ann", "abc")
        hand.do((("put", "x"), ("keep", 3)))
        # Its signs are ahead, and what is late is led past it.
        hand.take("bob", (("put", "y"), ("keep", 3)))
        self.assertEqual(hand.text(), "yxabc")
        self.assertIs(hand.is_still(), False)
        self.assertEqual(hand.send(), (1, (("keep", 1), ("put", "x"), ("keep", 3))))

    def test_another_ones_change_where_something_is_on_the_way(self):
        hand = Hand("ann", "abc")
        hand.do((("put", "x"), ("keep", 3)))
        hand.send()
        hand.take("bob", (("put", "y"), ("keep", 3)))
        self.assertEqual(hand.text(), "yxabc")
        self.assertIs(hand.is_still(), False)
        self.assertIsNone(hand.send())
        # What is on the way was led past the first, or the second one's sign would come behind it.
        hand.take("cy", (("keep", 1), ("put", "z"), ("keep", 3)))
        self.assertEqual(hand.text(), "yzxabc")
        hand.take("ann", (("keep", 2), ("put", "x"), ("keep", 3)))
        self.assertEqual(hand.text(), "yzxabc")
        self.assertIs(hand.is_still(), True)

    def test_another_ones_change_where_something_is_on_the_way_and_late(self):
        hand = Hand("ann", "abc")
        hand.do((("put", "x"), ("keep", 3)))
        hand.send()
        hand.do((("keep", 4), ("put", "z")))
        hand.take("bob", (("keep", 3), ("put", "y")))
        self.assertEqual(hand.text(), "xabcyz")
        hand.take("cy", (("drop", "a"), ("keep", 3)))
        self.assertEqual(hand.text(), "xbcyz")
        self.assertIsNone(hand.send())
        hand.take("ann", (("put", "x"), ("keep", 3)))
        self.assertEqual(hand.text(), "xbcyz")
        self.assertIs(hand.is_still(), False)
        self.assertEqual(hand.send(), (3, (("keep", 4), ("put", "z"))))
        hand.take("ann", (("keep", 4), ("put", "z")))
        self.assertEqual(hand.text(), "xbcyz")
        self.assertIs(hand.is_still(), True)

    def test_changes_that_nothing_was_done_to_are_sent_as_handed_in(self):
        change = (("put", "x"), ("drop", "a"), ("keep", 1), ("keep", 1))
        hand = Hand("ann", "abc")
        hand.do(change)
        self.assertEqual(hand.send(), (0, change))
        hand.do((("put", "y"), ("drop", "x"), ("keep", 2)))
        hand.take("ann", change)
        self.assertEqual(hand.send(), (1, (("put", "y"), ("drop", "x"), ("keep", 2))))

    def test_changes_that_something_was_done_to_are_sent_in_their_form(self):
        change = (("put", "x"), ("drop", "a"), ("keep", 1), ("keep", 1))
        hand = Hand("ann", "abc")
        hand.do(change)
        hand.take("bob", (("keep", 3), ("put", "y")))
        self.assertEqual(hand.send(), (1, (("drop", "a"), ("put", "x"), ("keep", 3))))
        hand = Hand("ann", "abc")
        hand.do(change)
        hand.do((("keep", 2), ("keep", 1)))
        self.assertEqual(hand.send(), (0, (("drop", "a"), ("put", "x"), ("keep", 2))))


class MeetTest(unittest.TestCase):
    def test_nothing_to_be_sent_and_nothing_to_be_taken(self):
        middle, hand = Middle("abc"), Hand("ann", "abc")
        self.assertEqual(meet(middle, hand), 0)
        self.assertEqual((middle.text(), middle.many(), hand.text()), ("abc", 0, "abc"))

    def test_nothing_to_be_sent(self):
        middle, ann, bob = Middle("abc"), Hand("ann", "abc"), Hand("bob", "abc")
        for sign in "xy":
            ann.do((("put", sign), ("keep", len(ann.text()))))
            self.assertEqual(meet(middle, ann), 1)
        self.assertEqual(meet(middle, bob), 2)
        self.assertEqual([middle.text(), middle.many(), ann.text(), bob.text()], ["yxabc", 2, "yxabc", "yxabc"])
        self.assertEqual([meet(middle, ann), meet(middle, bob)], [0, 0])

    def test_what_is_sent_and_what_is_taken(self):
        middle, ann, bob = Middle("abc"), Hand("ann", "abc"), Hand("bob", "abc")
        ann.do((("put", "x"), ("keep", 3)))
        bob.do((("keep", 1), ("drop", "b"), ("keep", 1)))
        self.assertEqual(meet(middle, ann), 1)
        # Another one's, and its own that came just now.
        self.assertEqual(meet(middle, bob), 2)
        self.assertEqual([middle.text(), ann.text(), bob.text()], ["xac", "xabc", "xac"])
        self.assertEqual([ann.is_still(), bob.is_still()], [True, True])
        self.assertEqual(meet(middle, ann), 1)
        self.assertEqual(ann.text(), "xac")
        self.assertEqual(middle.behind(0), [("ann", (("put", "x"), ("keep", 3))),
                                            ("bob", (("keep", 2), ("drop", "b"), ("keep", 1)))])

    def test_something_is_on_the_way_already(self):
        middle, ann, bob = Middle("abc"), Hand("ann", "abc"), Hand("bob", "abc")
        ann.do((("put", "x"), ("keep", 3)))
        known, change = ann.send()
        ann.do((("keep", 4), ("put", "y")))
        bob.do((("keep", 3), ("put", "z")))
        self.assertEqual(meet(middle, bob), 1)
        self.assertEqual(meet(middle, ann), 1)
        self.assertEqual([middle.text(), ann.text()], ["abcz", "xabczy"])
        middle.take("ann", known, change)
        self.assertEqual(meet(middle, ann), 1)
        self.assertEqual([middle.text(), ann.text(), ann.is_still()], ["xabcz", "xabczy", False])
        self.assertEqual(meet(middle, ann), 1)
        self.assertEqual([middle.text(), ann.text(), ann.is_still()], ["xabczy", "xabczy", True])

    def test_hands_that_put_at_one_place_at_the_same_time(self):
        for many in (2, 3):
            for order in itertools.permutations("abc"[:many]):
                middle = Middle("pq")
                hands = {own: Hand(own, "pq") for own in order}
                for own in sorted(order):
                    hands[own].do((("keep", 1), ("put", own), ("keep", 1)))
                told = [meet(middle, hands[own]) for own in order]
                self.assertEqual(told, list(range(1, many + 1)))
                # Who comes first has its sign ahead.
                self.assertEqual(middle.text(), "p" + "".join(order) + "q")
                for own in order:
                    meet(middle, hands[own])
                    self.assertEqual(hands[own].text(), middle.text())
                    self.assertIs(hands[own].is_still(), True)

    def test_hands_that_drop_the_same_sign(self):
        middle, ann, bob = Middle("abc"), Hand("ann", "abc"), Hand("bob", "abc")
        ann.do((("keep", 1), ("drop", "b"), ("put", "x"), ("keep", 1)))
        bob.do((("drop", "ab"), ("put", "y"), ("keep", 1)))
        for hand in (ann, bob, ann):
            meet(middle, hand)
        self.assertEqual([middle.text(), ann.text(), bob.text()], ["xyc", "xyc", "xyc"])

    def test_a_hand_that_comes_late(self):
        middle, ann = Middle("abc"), Hand("ann", "abc")
        ann.do((("put", "x"), ("keep", 3)))
        meet(middle, ann)
        bob = Hand("bob", "abc")
        bob.do((("drop", "a"), ("keep", 2)))
        self.assertEqual(meet(middle, bob), 2)
        self.assertEqual(bob.text(), "xbc")


def next_change(kind, own, text):
    """A change of this kind of the text, with a sign of its own."""
    half = len(text) // 2
    if kind == "put":
        return (("keep", half), ("put", own), ("keep", len(text) - half))
    if kind == "drop" and text:
        return (("drop", text[0]), ("keep", len(text) - 1))
    if kind == "both" and text:
        return (("put", own), ("drop", text[:half + 1]), ("keep", len(text) - half - 1), ("put", own))
    return (("keep", len(text)),)


class Net:
    """A middle and hands, and what is on the way from each hand; each step can be taken by itself."""

    def __init__(self, text, names):
        self.begun = text
        self.middle = Middle(text)
        self.hands = {own: Hand(own, text) for own in names}
        self.sent = {own: [] for own in names}
        self.took = {own: 0 for own in names}
        # All changes that the middle must have done, sign by sign straight from [3.1].
        self.wanted = []
        self.handed = []

    def arrive(self, own):
        known, change = self.sent[own].pop(0)
        self.middle.take(own, known, change)
        for since in self.wanted[known:]:
            change = led(change, since, False)
        self.wanted.append(change)

    def step(self, word, own):
        hand = self.hands[own]
        if word == "send":
            told = hand.send()
            if told is not None:
                self.sent[own].append(told)
        elif word == "arrive":
            if self.sent[own]:
                self.arrive(own)
        elif word == "take":
            if self.took[own] < self.middle.many():
                hand.take(*self.middle.behind(self.took[own])[0])
                self.took[own] += 1
        else:
            self.handed.append(next_change(word, own, hand.text()))
            hand.do(self.handed[-1])

    def settle(self):
        """All that is late or on the way comes to all."""
        for own in list(self.hands) * 3:
            for word in ("arrive", "send", "arrive"):
                self.step(word, own)
            for step in range(self.middle.many() - self.took[own]):
                self.step("take", own)


class MiddleLawsTest(unittest.TestCase):
    def all_alike(self, net, told):
        """All hands have the middle's text, which is that of its changes one by one."""
        changes = [change for own, change in net.middle.behind(0)]
        self.assertEqual([form(change) for change in changes], [form(change) for change in net.wanted], told)
        text = net.begun
        for change in changes:
            text = made_of(change, text)
        self.assertEqual(net.middle.text(), text, told)
        for hand in net.hands.values():
            self.assertEqual(hand.text(), text, told)
            self.assertIs(hand.is_still(), True, told)
            self.assertIsNone(hand.send(), told)

    def test_all_orders_of_meeting(self):
        names = "xyz"
        steps = [(word, own) for own in names for word in ("put", "both", "meet")]
        for order in itertools.product(steps, repeat=5):
            middle = Middle("ab")
            hands = {own: Hand(own, "ab") for own in names}
            for word, own in order + tuple(("meet", own) for own in names * 2):
                if word == "meet":
                    meet(middle, hands[own])
                    # What is met is just as the middle, as nothing is on the way or late.
                    self.assertEqual(hands[own].text(), middle.text(), order)
                    self.assertIs(hands[own].is_still(), True, order)
                else:
                    hands[own].do(next_change(word, own, hands[own].text()))
            self.assertEqual({hand.text() for hand in hands.values()}, {middle.text()}, order)

    def test_all_orders_of_two_hands_step_by_step(self):
        steps = [(word, own) for own in "xy" for word in ("both", "send", "arrive", "take")]
        begun = (("both", "x"), ("send", "x"), ("both", "y"))
        for order in itertools.product(steps, repeat=4):
            net = Net("ab", "xy")
            for word, own in begun + order:
                net.step(word, own)
            net.settle()
            self.all_alike(net, order)

    def test_long_orders_of_three_hands_step_by_step(self):
        source = random.Random(9)
        words = ("put", "drop", "both", "send", "send", "arrive", "arrive", "take", "take", "take")
        for number in range(400):
            net = Net("abab", "xyz")
            order = [(source.choice(words), source.choice("xyz")) for step in range(60)]
            for word, own in order:
                net.step(word, own)
            net.settle()
            self.all_alike(net, order)
            self.assertTrue(all(is_in_form(change) for own, change in net.middle.behind(0)
                                if change not in net.handed), order)


if __name__ == "__main__":
    unittest.main()
