"""Which entries a column can have in the rows that can be made."""

from packedseats.bounds import both_sides, meets
from packedseats.masks import mask_of


class Entries:
    """The entries of the told rows, and which of these rows meet which bounds."""

    def __init__(self, rows):
        self._rows = list(rows)
        self._meeting = {}

    def possible(self, light, wish, column):
        """Return, ascending, the different entries in the column of all rows that can be made and meet the wish.

        light is a list of lists of sides of the wish and the column. They are light for all of the councils, and
        each other light set of these sides is part of one of them.
        """
        bounds = {bound[:2]: bound for bound in wish}
        entries = self._told_within(bounds, column)
        for sides in light:
            others = [bounds[side] for side in sides if side[0] != column]
            own = [side for side in sides if side[0] == column]
            entries = self._left(entries, self._all_meeting(others), own)
        return entries

    def _told_within(self, bounds, column):
        """Return the told entries of the column that meet the bounds of the column itself."""
        own = [bounds[side] for side in both_sides(column) if side in bounds]
        return sorted({row[column] for row in self._rows if meets(row, own)})

    def _left(self, entries, rows, own):
        """Return the entries for which one of these rows meets the bounds on their column with these own sides."""
        return [entry for entry in entries if rows & self._all_meeting([(*side, entry) for side in own])]

    def _all_meeting(self, bounds):
        """Return the set of the told rows that meet all of the bounds."""
        rows = (1 << len(self._rows)) - 1
        for bound in bounds:
            rows &= self._meeting_one(bound)
        return rows

    def _meeting_one(self, bound):
        if bound not in self._meeting:
            self._meeting[bound] = mask_of([meets(row, [bound]) for row in self._rows])
        return self._meeting[bound]
