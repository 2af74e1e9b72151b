"""Sets as masks: bit k of a mask is set if the thing of index k belongs to the set."""

from packedseats.bounds import meets


def members(things, mask):
    """Return the list of the things that belong to the set, in their order."""
    return [thing for at, thing in enumerate(things) if mask >> at & 1]


def first_member(mask):
    """Return the least index that belongs to the set, which is not empty."""
    return (mask & -mask).bit_length() - 1


def mask_of(truths):
    """Return the set of the indexes at which the list holds what is true."""
    mask = 0
    for at, truth in enumerate(truths):
        if truth:
            mask |= 1 << at
    return mask


def union_of(masks):
    """Return the set of what belongs to one of the sets."""
    union = 0
    for mask in masks:
        union |= mask
    return union


def one_more(mask, many):
    """Return the sets that come of this one, a set of indexes below many, by adding one index."""
    return [mask | 1 << at for at in range(many) if not mask >> at & 1]


def one_less(mask, many):
    """Return the sets that come of this one, a set of indexes below many, by leaving out one index."""
    return [mask - (1 << at) for at in range(many) if mask >> at & 1]


def rows_meeting(rows, bounds):
    """Return for each bound the set of the rows that meet it."""
    return [mask_of([meets(row, [bound]) for row in rows]) for bound in bounds]


def met_table(meeting, many):
    """Return for each set of bounds, in ascending order, the set of those of so many rows that meet all of them.

    For each bound, meeting holds the set of the rows that meet it.
    """
    table = [(1 << many) - 1]
    for rows in meeting:
        table = table + [others & rows for others in table]
    return table


def fewest_first(lists):
    """Return the list that has the fewest items, of several the first one in order."""
    return min([(len(items), items) for items in lists])[1]
