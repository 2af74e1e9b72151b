"""Clauses: the loosest wishes of told entries that no row that can be made meets.

A set of rows or of sides is a mask of their indexes here.
"""

from packedseats.bounds import every_side, meets
from packedseats.errors import TooMany
from packedseats.fillings import heavy_table
from packedseats.masks import mask_of

MOST_CLAUSES = 400


def clauses(rows, councils, *, limit=MOST_CLAUSES):
    """Return the list of all clauses of the shelf for the councils, in ascending order."""
    finder = ClauseFinder(rows, councils, limit)
    return finder.found()


class ClauseFinder:
    """Puts clauses together bound by bound, as long as each bound is needed: without it, or looser, a row meets all."""

    def __init__(self, rows, councils, limit):
        sides = every_side(len(rows[0]) if rows else 0)
        self._choices = [_choices_of(rows, side) for side in sides]
        self._heavy = heavy_table(councils, sides)
        self._every_row = (1 << len(rows)) - 1
        self._limit = limit
        self._found = []

    def found(self):
        """Return the list of all clauses, in ascending order."""
        self._found = []
        self._search([], 0, self._every_row, [])
        return list(self._found)

    def _search(self, begun, sides, met, needing):
        """Find all clauses that begin with these bounds of these sides, while their rows are those that are met.

        For each bound, needing holds the rows that meet the others, and miss it but meet the next looser one.
        """
        if not met:
            self._add(begun)
            return
        for at in range(sides.bit_length(), len(self._choices)):
            if not self._heavy[sides | 1 << at]:
                for choice in self._choices[at]:
                    self._go_on(begun, sides | 1 << at, met, needing, choice)

    def _go_on(self, begun, sides, met, needing, choice):
        """Find all clauses that begin with these bounds and the chosen one, if each of them is needed still."""
        bound, meeting, looser = choice
        still_needing = [rows & meeting for rows in needing] + [met & looser]
        if all(still_needing) and not _leaves_no_entry(begun, bound):
            self._search([*begun, bound], sides, met & meeting, still_needing)

    def _add(self, clause):
        if len(self._found) == self._limit:
            raise TooMany(self._limit)
        self._found.append(clause)


def _choices_of(rows, side):
    """Return, ascending, (bound, rows that meet it, rows with the next looser told entry) for what can be needed."""
    column, way = side
    told = sorted({row[column] for row in rows})
    # All rows meet the loosest bound of the side, so no clause needs it.
    looser, values = (told, told[1:]) if way == "least" else (told[1:], told)
    return [_choice(rows, (*side, value), entry) for entry, value in zip(looser, values)]


def _choice(rows, bound, looser):
    meeting = mask_of([meets(row, [bound]) for row in rows])
    return (bound, meeting, mask_of([row[bound[0]] == looser for row in rows]))


def _leaves_no_entry(begun, bound):
    """Return whether the bound and the last one before it are on one column, but no entry meets both."""
    column, _, value = bound
    return begun != [] and begun[-1][0] == column and begun[-1][2] > value
