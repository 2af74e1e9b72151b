"""Charters: lists of allowed rows, and whether sessions of allowed rows make allowed rows only."""

from packedseats.bounds import every_side, exactly
from packedseats.errors import TooMany
from packedseats.fillings import heavy_table
from packedseats.gaps import wanted_gap
from packedseats.masks import members, met_table, rows_meeting
from packedseats.packings import first_packing
from packedseats.sessions import settle

MOST_BARRIERS = 400


def breach(councils, allowed):
    """Return None if the list is closed, or (council, seats, row): a session that makes a row that is not allowed."""
    sides = every_side(_width_of(allowed))
    gap = wanted_gap(allowed, sides, heavy_table(councils, sides))
    if gap is None:
        return None
    council, places = first_packing(councils, [sides[side] for side, _ in gap])
    # Each seat gets a row that misses its own bound alone, so what is made meets them all, as no allowed row does.
    seats = [gap[place][1] for place in places]
    return (council, seats, settle(councils[council], [allowed[seat] for seat in seats]))


def barriers(councils, allowed):
    """Return for each row of allowed entries that is not allowed why it cannot be made, or None if one can."""
    entries = [sorted({row[column] for row in allowed}) for column in range(_width_of(allowed))]
    if _how_many_rows_of(entries) - len(allowed) > MOST_BARRIERS:
        raise TooMany(MOST_BARRIERS)
    others = [row for row in _rows_of(entries) if row not in allowed]
    light = _light_in_order(councils, every_side(len(entries)))
    found = [(row, _barrier(row, allowed, light)) for row in others]
    if any([bounds is None for _, bounds in found]):
        return None
    return found


def _width_of(rows):
    return len(rows[0]) if rows else 0


def _how_many_rows_of(entries):
    many = 1
    for some in entries:
        many *= len(some)
    return many


def _rows_of(entries):
    """Return, in ascending order, the rows with one of these entries in each column."""
    rows = [()]
    for some in entries:
        rows = [(*row, entry) for row in rows for entry in some]
    return rows


def _light_in_order(councils, sides):
    """Return the masks of the sides that are light for all councils: of the fewest sides first, and then in order."""
    light = [mask for mask, is_heavy in enumerate(heavy_table(councils, sides)) if not is_heavy]
    lists = [(members(sides, mask), mask) for mask in light]
    return [mask for _, some, mask in sorted([(len(some), some, mask) for some, mask in lists])]


def _barrier(row, allowed, light):
    """Return the first of the light sets of bounds around the row that no allowed row meets, or None."""
    bounds = exactly(row)
    met = met_table(rows_meeting(allowed, bounds), len(allowed))
    for mask in light:
        if not met[mask]:
            return members(bounds, mask)
    return None
