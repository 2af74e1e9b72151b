"""The rows that can be made and meet a wish, one after another in ascending order."""

from packedseats.bounds import every_side, exactly, sides_of
from packedseats.entries import Entries
from packedseats.errors import TooMany
from packedseats.lightness import light_sets
from packedseats.wishes import is_possible

MOST_ROWS = 400


def is_made(rows, councils, row):
    """Return whether the row can be made."""
    return is_possible(rows, councils, exactly(row))


def first_row(rows, councils, wish):
    """Return the least row that can be made and meets the wish, or None."""
    if not rows:
        return None
    return Lister(rows, councils, wish).least_from(())


def row_after(rows, councils, wish, row):
    """Return the least row that can be made, meets the wish and is greater than the given row, or None."""
    if not rows:
        return None
    return Lister(rows, councils, wish).least_after(row)


def all_rows(rows, councils, wish, *, limit=MOST_ROWS):
    """Return the ascending list of all rows that can be made and meet the wish."""
    if not rows:
        return []
    found = []
    Lister(rows, councils, wish).collect((), found, limit)
    return found


class Lister:
    """Finds rows column by column: a beginning of a row is only followed up if some wanted row begins so."""

    def __init__(self, rows, councils, wish):
        self._entries = Entries(rows)
        self._wish = list(wish)
        self._width = len(rows[0])
        light = light_sets(councils, every_side(self._width))
        self._light = [self._light_at(light, column) for column in range(self._width)]

    def least_from(self, begun):
        """Return the least wanted row that begins so, or None."""
        while len(begun) < self._width:
            entries = self._next_entries(begun)
            if not entries:
                return None
            begun = (*begun, entries[0])
        return begun

    def least_after(self, row):
        """Return the least wanted row that is greater than the given one, or None."""
        begun = None
        for column in range(self._width):
            entries = self._next_entries(row[:column])
            greater = [entry for entry in entries if entry > row[column]]
            # The more entries are those of the given row, the less is a row that is greater than it.
            if greater:
                begun = (*row[:column], greater[0])
            if row[column] not in entries:
                break
        if begun is None:
            return None
        return self.least_from(begun)

    def collect(self, begun, found, limit):
        """Append all wanted rows that begin so, in ascending order; raise TooMany beyond the limit."""
        if len(begun) < self._width:
            for entry in self._next_entries(begun):
                self.collect((*begun, entry), found, limit)
        elif len(found) < limit:
            found.append(begun)
        else:
            raise TooMany(limit)

    def _next_entries(self, begun):
        """Return, ascending, the entries that come next in the wanted rows that begin so."""
        column = len(begun)
        wish = exactly(begun) + [bound for bound in self._wish if bound[0] >= column]
        return self._entries.possible(self._light[column], wish, column)

    def _light_at(self, light, column):
        """Return the light sets cut down to what is bound when this column comes next, after all before it."""
        wished = sides_of(self._wish)
        cut = [tuple([side for side in sides if side[0] <= column or side in wished]) for sides in light]
        return sorted(set(cut))
