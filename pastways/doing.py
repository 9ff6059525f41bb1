"""What changes make of texts, the way back, and changes behind one another."""

from pastways.changes import after, before, form, size
from pastways.errors import NoFit

TURNED = {"keep": "keep", "put": "drop", "drop": "put"}


def fits(change, text):
    """Whether the text has as many signs as the change goes through, and those that it drops stand there."""
    place = 0
    for part in change:
        if part[0] == "drop" and text[place:place + size(part)] != part[1]:
            return False
        if part[0] != "put":
            place = place + size(part)
    return place == len(text)


def done(change, text):
    """What the change makes of the text; NoFit."""
    if not fits(change, text):
        raise NoFit("the change does not fit the text")
    pieces = []
    place = 0
    for word, what in change:
        if word == "put":
            pieces.append(what)
        elif word == "drop":
            place = place + len(what)
        else:
            pieces.append(text[place:place + what])
            place = place + what
    return "".join(pieces)


def undone(change):
    """The change that leads back."""
    return form(tuple([(TURNED[word], what) for word, what in change]))


def nothing(many):
    """The change that keeps so many signs."""
    return form((("keep", many),))


def then(one, other):
    """The change that does what the one does, and the other one behind it; NoFit."""
    if after(one) != before(other):
        raise NoFit("the other change is of texts of another length")
    # The parts that are not gone through yet, with the next one last, so that pop takes it.
    ones = list(reversed(form(one)))
    others = list(reversed(form(other)))
    parts = []
    while ones or others:
        if ones and ones[-1][0] == "drop":
            parts.append(ones.pop())
        elif others and others[-1][0] == "put":
            parts.append(others.pop())
        else:
            many = min(size(ones[-1]), size(others[-1]))
            parts.extend(met(taken(ones, many), taken(others, many)))
    return form(tuple(parts))


def all_then(many, rows):
    """The change that keeps so many signs, and those of a list one behind the other; NoFit."""
    whole = nothing(many)
    for change in rows:
        whole = then(whole, change)
    return whole


def met(left, gone_through):
    """The parts that come of signs that one part leaves, and the other one keeps or drops; NoFit."""
    if gone_through[0] == "keep":
        return [left]
    if left[0] == "keep":
        return [gone_through]
    if left[1] != gone_through[1]:
        raise NoFit("the other change drops another sign than was put there")
    return []


def taken(parts, many):
    """So many signs of the next part, which is the last of the list; the list keeps the others."""
    halves = parted(parts.pop(), many)
    if size(halves[1]) > 0:
        parts.append(halves[1])
    return halves[0]


def parted(part, many):
    """A tuple of two: the part of so many first signs, and that of those behind."""
    word = part[0]
    if word == "keep":
        return ((word, many), (word, part[1] - many))
    return ((word, part[1][:many]), (word, part[1][many:]))
