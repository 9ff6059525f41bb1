"""Changes parted: into drops and puts, at a place, and sign by sign; and joined."""

from pastways.changes import before, form, size
from pastways.doing import nothing, taken
from pastways.errors import NoPlace


def drops_of(change):
    """The change that drops the same, and puts nothing."""
    return form(tuple([part for part in change if part[0] != "put"]))


def puts_of(change):
    """The change that puts, behind drops_of, what the change puts."""
    return form(tuple([part for part in form(change) if part[0] != "drop"]))


def joined(one, other):
    """The change that does the one's to the first signs, and the other's to those behind."""
    return form(one + other)


def cut(change, place):
    """A tuple of two changes, of the signs up to a place, with what is put there, and of those behind; NoPlace."""
    if place < 0 or place > before(change):
        raise NoPlace("the change is of texts without this place")
    # The next part stands last, so that pop takes it.
    parts = list(reversed(form(change)))
    first = []
    left = place
    while parts and (left > 0 or parts[-1][0] == "put"):
        if parts[-1][0] == "put":
            first.append(parts.pop())
        else:
            many = min(left, size(parts[-1]))
            first.append(taken(parts, many))
            left = left - many
    return (tuple(first), tuple(reversed(parts)))


def only(change, start, end):
    """The change that does this to the signs from start to end alone, and keeps all others; NoPlace."""
    behind = cut(change, start)[1]
    # Where the end is less, this is a place below 0, which cut refuses.
    return among(start, cut(behind, end - start)[0], before(change) - end)


def among(many, change, more):
    """The change that keeps so many signs, does the change's to those behind, and keeps so many more."""
    return joined(joined(nothing(many), change), nothing(more))


def singles(change):
    """A list of changes that each put or drop one sign, one behind the other, that come to the change."""
    rows = []
    ahead = 0
    behind = before(change)
    for part in form(change):
        if part[0] == "keep":
            ahead = ahead + part[1]
            behind = behind - part[1]
            continue
        for sign in part[1]:
            if part[0] == "drop":
                behind = behind - 1
            rows.append(among(ahead, ((part[0], sign),), behind))
            if part[0] == "put":
                ahead = ahead + 1
    return rows
