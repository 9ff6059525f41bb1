"""Whether changes are alike, and texts that part them or that all of them fit."""

from pastways.changes import before, form
from pastways.doing import done, fits
from pastways.passing import dropped_signs

# Two signs are enough to part any two changes: where just one drops, some sign is not that which is dropped; and where
# puts first differ in length, one has a kept sign where the other has one that it put, which some sign is not.
FILLS = ("a", "b")


def alike(one, other):
    """Whether both fit the same texts, and make the same of them."""
    return form(one) == form(other)


def parting(one, other):
    """A text that just one fits, or of which they make unlike ones; None, where they are alike."""
    for text in fitting(one) + fitting(other):
        if outcome(one, text) != outcome(other, text):
            return text
    return None


def within(one, other):
    """Whether the other one fits each text that the one fits, and makes the same of it."""
    return all([outcome(one, text) == outcome(other, text) for text in fitting(one)])


def all_fit(changes):
    """A text that all of a list of one or more changes fit; None, where there is none."""
    signs = {}
    for change in changes:
        signs.update(dropped_signs(change))
    text = filled(before(changes[0]), signs, FILLS[0])
    # Of unlike lengths, or unlike signs dropped at one place, some change does not fit what came last.
    if all([fits(change, text) for change in changes]):
        return text
    return None


def fitting(change):
    """A list of texts that the change fits, one for each sign that may stand where it keeps."""
    signs = dropped_signs(change)
    return [filled(before(change), signs, sign) for sign in FILLS]


def filled(many, signs, sign):
    """The text of so many signs with those of a dict at their places, and one and the same at all others."""
    return "".join([signs.get(place, sign) for place in range(many)])


def outcome(change, text):
    """What the change makes of the text; None, where it does not fit."""
    return done(change, text) if fits(change, text) else None
