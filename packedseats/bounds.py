"""Bounds on the columns, and wishes, which are lists of bounds of different sides."""

from packedseats.kinds import WAYS


def meets(row, wish):
    """Return whether the row meets all bounds of the wish."""
    return all([_meets_bound(row, bound) for bound in wish])


def missed(row, wish):
    """Return the bounds of the wish that the row misses, in ascending order."""
    return sorted([bound for bound in wish if not _meets_bound(row, bound)])


def exactly(row):
    """Return the wish that only this row meets."""
    return [(column, way, entry) for column, entry in enumerate(row) for way in WAYS]


def sides_of(wish):
    """Return the sides of the bounds of the wish, in ascending order."""
    return sorted([(column, way) for column, way, _ in wish])


def joined(wish, other):
    """Return the wish that exactly those rows meet that meet both wishes."""
    strictest = {}
    for column, way, value in wish + other:
        kept = strictest.get((column, way), value)
        strictest[(column, way)] = _stricter(way, kept, value)
    return sorted([(*side, value) for side, value in strictest.items()])


def mirrored(wish):
    """Return the bounds that a row multiplied by -1 meets if the row meets those of the wish."""
    return sorted([(column, _other_way(way), -value) for column, way, value in wish])


def both_sides(column):
    """Return the list of both sides of the column, in ascending order."""
    return [(column, way) for way in WAYS]


def every_side(width):
    """Return the list of all sides of the width, in ascending order."""
    return [side for column in range(width) for side in both_sides(column)]


def _meets_bound(row, bound):
    column, way, value = bound
    if way == "least":
        return row[column] >= value
    return row[column] <= value


def _stricter(way, value, other):
    if way == "least":
        return max(value, other)
    return min(value, other)


def _other_way(way):
    if way == "least":
        return "most"
    return "least"
