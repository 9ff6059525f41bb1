"""Who put which sign of a text."""

from pastways.changes import size
from pastways.doing import done


def owners(text, rows):
    """A list of the owner of each sign of the text that owned changes come to, None of one from the first; NoFit."""
    return traced(text, rows)[0]


def shares(text, rows):
    """A rising list of tuples (own, many): how many signs of the text that they come to each one put; NoFit."""
    return counted(traced(text, rows)[0])


def lost(text, rows):
    """A rising list of tuples (own, many): how many signs that each one put were dropped later; NoFit."""
    return counted(traced(text, rows)[1])


def traced(text, rows):
    """A tuple of two lists: the owners of the signs that stand behind all changes, and of those dropped; NoFit."""
    now = text
    standing = [None for sign in text]
    gone = []
    for own, change in rows:
        now = done(change, now)
        both = traced_once(standing, own, change)
        standing = both[0]
        gone.extend(both[1])
    return (standing, gone)


def traced_once(standing, own, change):
    """A tuple of two lists, of one change: the owners of the signs that stand behind it, and of those it drops."""
    left = []
    gone = []
    place = 0
    for part in change:
        if part[0] == "put":
            left.extend([own for sign in part[1]])
            continue
        names = standing[place:place + size(part)]
        place = place + size(part)
        if part[0] == "keep":
            left.extend(names)
        else:
            gone.extend(names)
    return (left, gone)


def counted(names):
    """A rising list of tuples (name, many): how often each stands in the list; None is no name."""
    put = [name for name in names if name is not None]
    return [(name, put.count(name)) for name in sorted(set(put))]
