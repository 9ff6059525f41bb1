"""Changes between two texts: the least ones, and those that leave the alike ends."""

from pastways.changes import form, stretch


def least_cost(old, new):
    """The least cost of a change that makes the new text of the old one."""
    return first_costs(old, new)[-1][-1]


def least_change(old, new):
    """A change that makes the new text of the old one, with the least cost."""
    costs = first_costs(old, new)
    # The costs are of first signs, so the way is found from the right on.
    parts = []
    left = len(old)
    wanted = len(new)
    while left > 0 or wanted > 0:
        if left > 0 and wanted > 0 and old[left - 1] == new[wanted - 1]:
            parts.append(("keep", 1))
            left = left - 1
            wanted = wanted - 1
        elif left > 0 and costs[left - 1][wanted] < costs[left][wanted]:
            parts.append(("drop", old[left - 1]))
            left = left - 1
        else:
            parts.append(("put", new[wanted - 1]))
            wanted = wanted - 1
    return form(tuple(reversed(parts)))


def first_costs(old, new):
    """A list, for each number of first signs of the old text, of the least costs to each number of the new one's."""
    rows = [list(range(len(new) + 1))]
    for sign in old:
        rows.append(costs_with(sign, new, rows[-1]))
    return rows


def costs_with(sign, new, costs):
    """The least costs to each number of first signs of the new text, with one more old sign than those told."""
    row = [costs[0] + 1]
    for place, wanted in enumerate(new):
        if wanted == sign:
            row.append(costs[place])
        else:
            row.append(1 + min(costs[place + 1], row[place]))
    return row


def apart(old, new):
    """The change that keeps the alike first signs, then the alike last ones, and drops and puts what is between."""
    first = alike_many(old, new)
    # Only signs behind the first ones count as last ones, so that no sign is kept twice.
    gone = old[first:]
    put = new[first:]
    last = alike_many(gone[::-1], put[::-1])
    parts = stretch(first, gone[:len(gone) - last], put[:len(put) - last])
    return form(tuple(parts + stretch(last, "", "")))


def alike_many(one, other):
    """How many first signs the two texts have alike."""
    many = 0
    for sign, wanted in zip(one, other):
        if sign != wanted:
            return many
        many = many + 1
    return many
