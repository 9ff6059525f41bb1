"""Owned changes, as few as can be."""

from pastways.changes import cost, form
from pastways.doing import then


def squeezed(rows):
    """A list of owned changes that do the same, with no neighbours of one own, and none that does nothing; NoFit."""
    kept = []
    for own, change in rows:
        whole = form(change)
        if kept and kept[-1][0] == own:
            whole = then(kept.pop()[1], change)
        # What is not kept leaves the one ahead of it as the last one, to which the next may belong.
        if cost(whole) > 0:
            kept.append((own, whole))
    return kept
