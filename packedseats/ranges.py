"""The range of a column: the least and the greatest entry that it has in the rows that can be made."""

from packedseats.bounds import both_sides, sides_of
from packedseats.entries import Entries
from packedseats.lightness import light_sets


def extremes(rows, councils, wish, column):
    """Return (least, greatest) of the entries in the column of all rows that can be made and meet the wish, or None."""
    sides = sorted(set(sides_of(wish) + both_sides(column)))
    entries = Entries(rows).possible(light_sets(councils, sides), wish, column)
    if not entries:
        return None
    return (entries[0], entries[-1])
