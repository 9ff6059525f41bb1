"""What several tests need: all small changes and texts, and how a change goes sign by sign."""

import itertools

from pastways.changes import form

SMALL_PARTS = (("keep", 1), ("keep", 2), ("put", "a"), ("put", "b"), ("drop", "a"), ("drop", "ab"))
WRITTEN_SIGNS = [chr(number) for number in range(ord(" "), ord("~") + 1)] + ["\n"]


def small_changes(most):
    """All changes of small parts, so many at most."""
    return [parts for many in range(most + 1) for parts in itertools.product(SMALL_PARTS, repeat=many)]


def small_texts(most):
    """All texts of the signs a and b, of so many at most."""
    return ["".join(signs) for many in range(most + 1) for signs in itertools.product("ab", repeat=many)]


def made_of(change, text):
    """What the change makes of the text, straight from [1.1]; None, where it does not fit."""
    left = list(text)
    new = []
    for word, what in change:
        if word == "put":
            new.extend(what)
            continue
        for sign in range(what) if word == "keep" else what:
            if not left or (word == "drop" and left[0] != sign):
                return None
            stood = left.pop(0)
            if word == "keep":
                new.append(stood)
    return None if left else "".join(new)


def is_in_form(change):
    """Whether no neighbours have one word, no put stands just ahead of a drop, and no part is empty."""
    words = [word for word, what in change]
    pairs = list(zip(words, words[1:]))
    return (isinstance(change, tuple)
            and all(isinstance(part, tuple) and len(part) == 2 and part[1] for part in change)
            and all(left != right for left, right in pairs)
            and ("put", "drop") not in pairs)


def laid_out(change):
    """A tuple of two, straight from [1.2]: for each sign of the text that which is dropped there, None of a kept one;
    and for each place of the text what is put there by the form, so behind all that is dropped up to a kept sign."""
    dropped = []
    puts = [""]
    waiting = ""
    for word, what in change:
        if word == "put":
            waiting += what
            continue
        for sign in [None] * what if word == "keep" else what:
            if sign is None:
                puts[-1] = waiting
                waiting = ""
            dropped.append(sign)
            puts.append("")
    puts[-1] = waiting
    return dropped, puts


def laid_together(dropped, puts):
    """The change, sign by sign, of what laid_out tells; the last of what is put may be left out."""
    parts = []
    for place in range(len(dropped) + 1):
        parts.extend([("put", sign) for sign in "".join(puts[place:place + 1])])
        if place < len(dropped):
            parts.append(("keep", 1) if dropped[place] is None else ("drop", dropped[place]))
    return tuple(parts)


def led(one, other, is_first):
    """What [3.1] tells of past, sign by sign, of changes of one length."""
    gone, puts = laid_out(one)
    lost, news = laid_out(other)
    parts = []
    for place in range(len(gone) + 1):
        mine = [("put", sign) for sign in puts[place]]
        kept = [("keep", 1) for sign in news[place]]
        parts.extend(mine + kept if is_first else kept + mine)
        if place < len(gone) and lost[place] is None:
            parts.append(("keep", 1) if gone[place] is None else ("drop", gone[place]))
    return form(tuple(parts))


def small_rows(text, many):
    """All rows of so many small changes, of two parts at most, that go on from the text."""
    rows = [([], text)]
    for step in range(many):
        rows = [(row + [change], made_of(change, old))
                for row, old in rows for change in small_changes(2) if made_of(change, old) is not None]
    return [row for row, old in rows]


def owned_rows(text, many, names):
    """All lists of so many owned small changes that go on from the text."""
    return [list(zip(owns, row)) for row in small_rows(text, many) for owns in itertools.product(names, repeat=many)]


def signs_of(text, rows):
    """A tuple of two lists of tuples (sign, own), straight from [11.1]: those that stand there in the end, and those
    that were dropped; None as the own of one from the first, and None for all, where a change does not fit."""
    standing = [(sign, None) for sign in text]
    dropped = []
    for own, change in rows:
        left = standing
        standing = []
        for word, what in change:
            if word == "put":
                standing += [(sign, own) for sign in what]
                continue
            for sign in range(what) if word == "keep" else what:
                if not left or (word == "drop" and left[0][0] != sign):
                    return None
                (standing if word == "keep" else dropped).append(left[0])
                left = left[1:]
        if left:
            return None
    return standing, dropped


def spoilt(text):
    """All texts that are spoilt in one sign: one left out, put in, or another one in its place."""
    for place in range(len(text) + 1):
        for sign in WRITTEN_SIGNS:
            yield text[:place] + sign + text[place:]
            yield text[:place] + sign + text[place + 1:]
        yield text[:place] + text[place + 1:]
