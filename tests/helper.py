"""What several tests need: all small changes and texts, and how a change goes sign by sign."""

import itertools

SMALL_PARTS = (("keep", 1), ("keep", 2), ("put", "a"), ("put", "b"), ("drop", "a"), ("drop", "ab"))


def small_changes(most):
    """All changes of small parts, so many at most."""
    return [parts for many in range(most + 1) for parts in itertools.product(SMALL_PARTS, repeat=many)]


def small_texts(most):
    """All texts of the signs a and b, of so many at most."""
    return ["".join(signs) for many in range(most + 1) for signs in itertools.product("ab", repeat=many)]


def made_of(change, text):
    """What the change makes of the text, straight from [1.1]; None, where it does not fit."""
    left = list(text)
    new = []
    for word, what in change:
        if word == "put":
            new.extend(what)
            continue
        for sign in range(what) if word == "keep" else what:
            if not left or (word == "drop" and left[0] != sign):
                return None
            stood = left.pop(0)
            if word == "keep":
                new.append(stood)
    return None if left else "".join(new)


def is_in_form(change):
    """Whether no neighbours have one word, no put stands just ahead of a drop, and no part is empty."""
    words = [word for word, what in change]
    pairs = list(zip(words, words[1:]))
    return (isinstance(change, tuple)
            and all(isinstance(part, tuple) and len(part) == 2 and part[1] for part in change)
            and all(left != right for left, right in pairs)
            and ("put", "drop") not in pairs)
