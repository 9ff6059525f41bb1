"""Changes: what they are, how many signs they go through, and their one form."""

SIGNS = "abcdefghijklmnopqrstuvwxyz "
MOST_KEPT = 99
MOST_SIGNS = 8
MOST_PARTS = 12


def is_change(thing):
    """Whether any thing at all is a change."""
    if not isinstance(thing, tuple) or len(thing) > MOST_PARTS:
        return False
    return all([is_part(part) for part in thing])


def is_part(thing):
    """Whether any thing at all is a part of a change."""
    if not isinstance(thing, tuple) or len(thing) != 2:
        return False
    if thing[0] == "keep":
        return is_kept(thing[1])
    return thing[0] in ("put", "drop") and is_some(thing[1])


def is_kept(thing):
    """Whether any thing at all is a number of signs that a part can keep."""
    # Python counts truths as ints, the document does not.
    if isinstance(thing, bool) or not isinstance(thing, int):
        return False
    return 1 <= thing <= MOST_KEPT


def is_some(thing):
    """Whether any thing at all is a text that a part can put or drop."""
    if not isinstance(thing, str) or not 1 <= len(thing) <= MOST_SIGNS:
        return False
    return all([sign in SIGNS for sign in thing])


def size(part):
    """How many signs a part keeps, puts or drops."""
    if part[0] == "keep":
        return part[1]
    return len(part[1])


def before(change):
    """How many signs a text has that the change changes."""
    return sum([size(part) for part in change if part[0] != "put"])


def after(change):
    """How many signs the text has to which the change leads."""
    return sum([size(part) for part in change if part[0] != "drop"])


def cost(change):
    """How many signs the change puts and drops."""
    return sum([size(part) for part in change if part[0] != "keep"])


def form(change):
    """The one change that does the same, with drops ahead of puts and no neighbours of one word."""
    parts = []
    kept = 0
    gone = ""
    new = ""
    for word, what in change:
        if word == "drop":
            gone = gone + what
        elif word == "put":
            new = new + what
        elif what > 0:
            # Only a kept sign ends a stretch in which drops and puts may change places.
            if gone != "" or new != "":
                parts.extend(stretch(kept, gone, new))
                kept = 0
                gone = ""
                new = ""
            kept = kept + what
    parts.extend(stretch(kept, gone, new))
    return tuple(parts)


def stretch(kept, gone, new):
    """The parts that keep so many signs, then drop a text, then put one, without empty parts."""
    parts = []
    if kept > 0:
        parts.append(("keep", kept))
    if gone != "":
        parts.append(("drop", gone))
    if new != "":
        parts.append(("put", new))
    return parts
