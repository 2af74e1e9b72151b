"""Gaps: sets of bounds that no row of a list meets, while some row meets each of their proper subsets.

A gap has faces: each is a side and a row, and stands for the loosest bound with this side that the row misses. Sides
and rows are indexes here, and sets of them are masks. Only gaps of which no bound can be loosened are gone through:
whatever sides a gap has, its bounds can be loosened until it is one of these.
"""

from packedseats.masks import first_member, mask_of


def wanted_gap(rows, sides, is_wanted):
    """Return the faces of a gap as a list of tuples (side, row), or None if the rows have no gap that is wanted.

    is_wanted tells for each set of sides whether a gap of these sides is wanted. The row of a face misses the bound
    of this face alone.
    """
    return GapFinder(rows, sides, is_wanted).found({}, 0)


class GapFinder:
    """Knows which rows miss each bound that a face can stand for."""

    def __init__(self, rows, sides, is_wanted):
        self._many = len(rows)
        self._wanted = is_wanted
        entries = [[_distance(row, side) for row in rows] for side in sides]
        self._missing = [[mask_of([other <= own for other in column]) for own in column] for column in entries]
        self._outmost = [[mask_of([other == own for other in column]) for own in column] for column in entries]

    def found(self, faces, at):
        """Return a wanted gap that comes of these faces, of which each row before this index misses one, or None."""
        # The next row that they let through must be stopped by a face of its own, on one side or another.
        while self._is_missed(faces, at):
            at += 1
        if at == self._many:
            return self._listed(faces)
        for side in range(len(self._missing)):
            more = {**faces, side: at}
            if all(self._own_rows(more, (2 << at) - 1)):
                gap = self.found(more, at + 1)
                if gap is not None:
                    return gap
        return None

    def _is_missed(self, faces, at):
        return any([self._missing[side][row] >> at & 1 for side, row in faces.items()])

    def _own_rows(self, faces, seen):
        """Return for each face those of the rows seen that miss its bound alone, and would meet the next looser one."""
        once = twice = 0
        for side, row in faces.items():
            twice |= once & self._missing[side][row]
            once |= self._missing[side][row]
        return [self._outmost[side][row] & seen & ~twice for side, row in faces.items()]

    def _listed(self, faces):
        """Return the faces as a list if a gap of their sides is wanted, or None."""
        if not self._wanted[mask_of([side in faces for side in range(len(self._missing))])]:
            return None
        own_rows = self._own_rows(faces, (1 << self._many) - 1)
        return [(side, first_member(rows)) for side, rows in zip(faces, own_rows)]


def _distance(row, side):
    """Return a number that is the greater, the stricter a bound with this side must be so that the row misses it."""
    column, way = side
    return row[column] if way == "least" else -row[column]
