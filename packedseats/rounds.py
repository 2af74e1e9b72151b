"""Rounds: what can be made when the sessions of one round use rows of earlier rounds only.

A set of bounds of the wish is a mask of their indexes here. A level is the list of the sets of bounds that the rows
of some rounds meet, without those that are part of another one: a row that meets more bounds serves as well.
"""

from packedseats.bounds import meets, sides_of
from packedseats.fillings import allowances_of
from packedseats.masks import mask_of, members
from packedseats.seatings import seating
from packedseats.wishes import decide


def met_sets(rows, councils, wish):
    """Return the levels of the sets of bounds that rows of no round, of one round and so on meet."""
    bounds = sorted(wish)
    history = History(rows, councils, bounds)
    while history.goes_on():
        pass
    return [sorted([members(bounds, mask) for mask in level]) for level in history.levels()]


def least_rounds(rows, councils, wish):
    """Return ("rounds", number, plan) with the least number of rounds for the wish, or ("never", paper)."""
    bounds = sorted(wish)
    whole = (1 << len(bounds)) - 1
    history = History(rows, councils, bounds)
    while whole not in history.levels()[-1]:
        if not history.goes_on():
            return decide(rows, councils, wish)
    return ("rounds", len(history.levels()) - 1, history.plan(whole))


class History:
    """The levels so far, and for each set of bounds that they hold how a row comes about that meets them."""

    def __init__(self, rows, councils, bounds):
        self._councils = list(councils)
        self._many = len(rows)
        self._sets = _large_sets_first(len(bounds))
        self._allowances = [allowances_of(council, sides_of(bounds)) for council in councils]
        met = [mask_of([meets(row, [bound]) for bound in bounds]) for row in rows]
        self._told = {mask: met.index(mask) for mask in met}
        self._made = {}
        self._levels = [_greatest(self._sets, met)]

    def levels(self):
        """Return the list of the levels so far."""
        return list(self._levels)

    def goes_on(self):
        """Add the next level if it is another one than the last, and return whether it is."""
        last = self._levels[-1]
        made = []
        for mask in self._sets:
            if not _is_in_one(mask, last + made) and self._is_made(mask, last):
                made.append(mask)
        if made:
            self._levels.append(_greatest(self._sets, last + made))
        return made != []

    def plan(self, mask):
        """Return a plan for a set of a level: its steps are those that the end needs."""
        steps, references = [], {}
        end = self._add_steps(mask, steps, references)
        return (steps, end)

    def _is_made(self, mask, level):
        """Return whether a session makes a row that meets these bounds from rows of the level, and keep how."""
        for index, council in enumerate(self._councils):
            lacking = [mask - (mask & met) for met in level]
            places = seating(council.weights(), self._allowances[index], lacking)
            if places is not None:
                self._made[mask] = (index, [level[place] for place in places])
                return True
        return False

    def _add_steps(self, mask, steps, references):
        """Append the steps that a row needs that meets just these bounds, and return the reference to it."""
        if mask in self._told:
            return self._told[mask]
        if mask not in references:
            council, seated = self._made[mask]
            seats = [self._add_steps(met, steps, references) for met in seated]
            steps.append((council, seats))
            references[mask] = self._many + len(steps) - 1
        return references[mask]


def _large_sets_first(many):
    """Return all sets of so many bounds, each before all of its proper subsets."""
    return sorted(range(1 << many), reverse=True)


def _greatest(sets, masks):
    """Return those of the masks that are part of no other one, once each. The sets are all sets in a fixed order."""
    return [mask for mask in sets if mask in masks and not _is_in_one(mask, [some for some in masks if some != mask])]


def _is_in_one(mask, masks):
    return any([mask & some == mask for some in masks])
