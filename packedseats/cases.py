"""Cases: which bounds are met by which told rows, and the paper or the plan that follows from it.

A set of bounds is a mask of their indexes, and a set of told rows is a mask of theirs.
"""

from packedseats.bounds import sides_of
from packedseats.fillings import heavy_table
from packedseats.masks import fewest_first, first_member, members, met_table, rows_meeting
from packedseats.packings import first_packing


def wish_case(rows, councils, wish):
    """Return the Case of the bounds of a wish and the told rows."""
    bounds = sorted(wish)
    return Case(councils, bounds, sides_of(bounds), rows_meeting(rows, bounds), len(rows))


class Case:
    """Bounds in ascending order, the side of each, and for each the set of those of so many rows that meet it."""

    def __init__(self, councils, bounds, sides, meeting, many):
        self._councils = list(councils)
        self._bounds = list(bounds)
        self._sides = list(sides)
        self._many = many
        self._heavy = heavy_table(councils, sides)
        self._met = met_table(meeting, many)

    def light(self):
        """Return the list of all sets of the bounds that are light for all of the councils."""
        return [mask for mask, is_heavy in enumerate(self._heavy) if not is_heavy]

    def rows(self, mask):
        """Return the set of the rows that meet all bounds of this set."""
        return self._met[mask]

    def first(self, masks):
        """Return the bounds of the set that has the fewest, of several the first one in order."""
        return fewest_first([members(self._bounds, mask) for mask in masks])

    def is_possible(self):
        """Return whether each light set of the bounds is met by some row."""
        return all([self._met[mask] for mask in self.light()])

    def paper(self):
        """Return the paper that has the fewest bounds, of several the first one in order, or None."""
        unmet = [mask for mask in self.light() if not self._met[mask]]
        if not unmet:
            return None
        return self.first(unmet)

    def plan(self):
        """Return a plan whose end meets all bounds, if there is no paper."""
        planner = Planner(self._councils, self._sides, self._heavy, self._met, self._many)
        return planner.plan((1 << len(self._bounds)) - 1)


class Planner:
    """Makes at most one step for each set of bounds: some council makes a row that meets all of them.

    It packs its seats into these bounds and gives each seat a row that meets all of them but the seat's own one.
    """

    def __init__(self, councils, sides, heavy, met, many):
        self._councils = councils
        self._sides = sides
        self._heavy = heavy
        self._met = met
        self._many = many
        self._steps = []
        self._references = {}
        self._packings = {}

    def plan(self, wanted):
        """Return a plan whose end meets this set of bounds."""
        end = self._reference(wanted)
        return (list(self._steps), end)

    def _reference(self, wanted):
        """Return a reference to a row that meets these bounds, a told one or one that a step makes."""
        if wanted not in self._references:
            self._references[wanted] = self._told_or_made(wanted)
        return self._references[wanted]

    def _told_or_made(self, wanted):
        if self._met[wanted]:
            return first_member(self._met[wanted])
        council, indexes = self._packed(self._least_heavy(wanted))
        seats = [self._reference(wanted - (1 << index)) for index in indexes]
        self._steps.append((council, seats))
        return self._many + len(self._steps) - 1

    def _least_heavy(self, heavy):
        """Return a part of a heavy set that is heavy, while none of its own parts is."""
        # Few bounds to leave out mean few different seats, and so few steps.
        for index in range(len(self._sides)):
            if heavy >> index & 1 and self._heavy[heavy - (1 << index)]:
                heavy -= 1 << index
        return heavy

    def _packed(self, heavy):
        """Return (council, indexes): one for which the set is heavy, and for each seat the bound that it misses."""
        if heavy not in self._packings:
            self._packings[heavy] = self._found_packing(heavy)
        return self._packings[heavy]

    def _found_packing(self, heavy):
        indexes = members(list(range(len(self._sides))), heavy)
        council, places = first_packing(self._councils, members(self._sides, heavy))
        return (council, [indexes[place] for place in places])
