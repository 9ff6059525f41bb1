"""Two changes of one text, and rows of them, led past one another."""

from pastways.changes import after, before, form, size
from pastways.doing import taken, then
from pastways.errors import Clash, NoFit


def past(one, other, is_first):
    """What the one does, to be done behind the other; its signs are ahead where is_first is True; NoFit, Clash."""
    if clashing(one, other):
        raise Clash("both changes drop unlike signs at one place")
    # The parts that are not gone through yet, with the next one last, so that pop takes it.
    ones = list(reversed(form(one)))
    others = list(reversed(form(other)))
    parts = []
    while ones or others:
        if puts_next(ones) and (is_first or not puts_next(others)):
            parts.append(ones.pop())
        elif puts_next(others):
            parts.append(("keep", size(others.pop())))
        else:
            many = min(size(ones[-1]), size(others[-1]))
            part = taken(ones, many)
            if taken(others, many)[0] == "keep":
                parts.append(part)
    return form(tuple(parts))


def puts_next(parts):
    """Whether the next part, which is the last of the list, puts."""
    return len(parts) > 0 and parts[-1][0] == "put"


def clashing(one, other):
    """A rising list of the places at which both drop unlike signs; NoFit."""
    if before(one) != before(other):
        raise NoFit("the changes are of texts of unlike lengths")
    signs = dropped_signs(one)
    unlike = dropped_signs(other)
    return [place for place in sorted(signs) if unlike.get(place, signs[place]) != signs[place]]


def dropped_signs(change):
    """A dict of each place of the text at which a sign is dropped, and this sign."""
    signs = {}
    place = 0
    for part in change:
        if part[0] == "drop":
            for sign in part[1]:
                signs[place] = sign
                place = place + 1
        elif part[0] == "keep":
            place = place + part[1]
    return signs


def merged(one, other):
    """The change that does what both do, the one's signs being ahead; NoFit, Clash."""
    return then(one, past(other, one, False))


def rows_past(ones, others):
    """A tuple of two lists: each row led past the other one, the ones' signs being ahead; NoFit, Clash."""
    check_row(ones)
    check_row(others)
    led = []
    crossed = [form(change) for change in others]
    for one in ones:
        both = past_row(one, crossed)
        led.append(both[0])
        crossed = both[1]
    return (led, crossed)


def check_row(rows):
    """Refuse, by NoFit, a row of which a change is of texts of another length than the one ahead leads to."""
    # A row that is led past none meets no change that would tell this.
    for number in range(1, len(rows)):
        if after(rows[number - 1]) != before(rows[number]):
            raise NoFit("a change of the row is of texts of another length")


def past_row(one, others):
    """A tuple of two: the one led past a row, and a list of the row led past the one, whose signs are ahead."""
    change = form(one)
    led = []
    for other in others:
        led.append(past(other, change, False))
        change = past(change, other, True)
    return (change, led)
