"""Families: which sets of all sides of a width are heavy, and which of them rows do not meet.

A set of sides is a mask of the indexes of every side, and a family is a mask of such sets. So one operation on two
numbers compares all sets at once, and what is found for a council serves for many rows and wishes.
"""

from packedseats.bounds import every_side, exactly, meets
from packedseats.fillings import heavy_table
from packedseats.masks import mask_of, met_table


def heavy_family(councils):
    """Return the family of the sets of sides that are heavy for one of the councils."""
    if not councils:
        return 0
    return mask_of(heavy_table(councils, every_side(councils[0].width())))


def can_meet(rows, heavy, wish):
    """Return whether a row that meets the wish can be made from these ones, if this is the heavy family."""
    return rows != [] and _unmet_family(rows, wish) & ~heavy == 0


def can_make(rows, heavy, row):
    """Return whether the row can be made from these ones, if this is the heavy family."""
    return row in rows or can_meet(rows, heavy, exactly(row))


def _unmet_family(rows, wish):
    """Return the family of the sets of sides for which no row meets all bounds of the wish with these sides."""
    wanted = {bound[:2]: [bound] for bound in wish}
    bounds = [wanted.get(side, []) for side in every_side(len(rows[0]))]
    meeting = [mask_of([meets(row, some) for row in rows]) for some in bounds]
    return mask_of([not met for met in met_table(meeting, len(rows))])
