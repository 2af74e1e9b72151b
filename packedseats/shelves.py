"""Shelves: whether the same rows can be made from two of them, and from which of its rows all others can be."""

from packedseats.families import can_make, heavy_family


def parted(rows, others, councils):
    """Return None if the same rows can be made from both shelves, or (which, index) of a row that parts them."""
    heavy = heavy_family(councils)
    for which, (shelf, other) in enumerate([(rows, others), (others, rows)]):
        for index, row in enumerate(shelf):
            if not can_make(other, heavy, row):
                return (which, index)
    return None


def core(rows, councils):
    """Return the ascending indexes of the rows that are left when each row goes that the others left can make."""
    heavy = heavy_family(councils)
    kept = list(range(len(rows)))
    for index, row in enumerate(rows):
        others = [other for other in kept if other != index]
        if can_make([rows[other] for other in others], heavy, row):
            kept = others
    return kept
