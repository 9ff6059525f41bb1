"""Where the places and signs of a text come to, and the places that a change touches."""

from pastways.changes import after, form, stretch
from pastways.doing import undone
from pastways.errors import NoPlace
from pastways.parts import cut


def place_after(change, place, side):
    """How many signs are ahead of the place then, with those put just there if the side is behind; NoPlace."""
    first = cut(change, place)[0]
    # What cut leaves at the end of the first change is put just at the place.
    if side == "ahead" and first and first[-1][0] == "put":
        return after(first[:-1])
    return after(first)


def place_before(change, place, side):
    """How many signs were ahead of a place of the text to which the change leads; NoPlace."""
    return place_after(undone(change), place, side)


def sign_after(change, place):
    """How many signs are then ahead of the sign behind the place; None, where it is dropped; NoPlace."""
    halves = cut(change, place)
    if not halves[1]:
        raise NoPlace("no sign stands behind this place")
    if halves[1][0][0] == "drop":
        return None
    return after(halves[0])


def touched(change):
    """A list of tuples (place, gone, new): what is dropped and put at each place between two kept signs."""
    rows = []
    place = 0
    gone = ""
    new = ""
    # A kept sign behind the end closes the last stretch, too.
    for word, what in form(change) + (("keep", 1),):
        if word == "drop":
            gone = what
        elif word == "put":
            new = what
        else:
            if gone != "" or new != "":
                rows.append((place, gone, new))
            place = place + len(gone) + what
            gone = ""
            new = ""
    return rows


def of_touched(many, rows):
    """The change of so many signs that drops and puts what a list as told by touched says."""
    parts = []
    gone_through = 0
    for place, gone, new in rows:
        parts.extend(stretch(place - gone_through, gone, new))
        gone_through = place + len(gone)
    parts.extend(stretch(many - gone_through, "", ""))
    return form(tuple(parts))
