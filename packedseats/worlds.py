"""Several worlds at once: one plan that suits each of them, and how many told rows may be wrong.

A place is a tuple (world, bound): a bound of the wish of the world at this index. A set of rows is a mask of their
indexes here, and so is a set of bounds.
"""

from packedseats.bounds import meets, sides_of
from packedseats.cases import Case
from packedseats.fillings import light_lists
from packedseats.kinds import is_integer
from packedseats.lightness import is_light
from packedseats.masks import mask_of, members, met_table, rows_meeting
from packedseats.wishes import ascends, is_bound_of

LONGEST_LIST = 12


def decide_all(worlds, councils):
    """Return ("plan", plan) with one plan whose end meets the wish of each world, or ("never", places)."""
    places = [(world, bound) for world, (_, wish) in enumerate(worlds) for bound in sorted(wish)]
    meeting = [mask for rows, wish in worlds for mask in rows_meeting(rows, sorted(wish))]
    case = Case(councils, places, _sides_of_places(places), meeting, _many_rows(worlds))
    paper = case.paper()
    if paper is None:
        return ("plan", case.plan())
    return ("never", paper)


def is_world_paper(worlds, councils, thing):
    """Return whether thing is a list of light and ascending places of which each row misses one in its world."""
    if not isinstance(thing, list) or not all([_is_place(worlds, part) for part in thing]):
        return False
    if not ascends(thing) or not is_light(councils, _sides_of_places(thing)):
        return False
    return all([_misses_one(worlds, thing, row) for row in range(_many_rows(worlds))])


def withstood(rows, councils, wish):
    """Return (number, bounds, indexes): how many told rows may be wrong, the list that says so, and who meets it."""
    bounds = sorted(wish)
    met = met_table(rows_meeting(rows, bounds), len(rows))
    every_row = list(range(len(rows)))
    found = []
    for indexes in light_lists(councils, sides_of(bounds), LONGEST_LIST):
        meeting = members(every_row, met[_set_of(indexes, bounds)])
        found.append(((len(meeting) - 1) // len(indexes), len(indexes), indexes, meeting))
    # A wish without bounds has no such list: it is met whichever rows are replaced, if there are any.
    number, _, indexes, meeting = min(found, default=(len(rows) or -1, 0, [], every_row))
    return (number, [bounds[index] for index in indexes], meeting)


def _many_rows(worlds):
    """Return how many told rows there are, as many in each world."""
    return max([len(rows) for rows, _ in worlds], default=0)


def _sides_of_places(places):
    return [bound[:2] for _, bound in places]


def _is_place(worlds, thing):
    """Return whether thing is a tuple of the index of a world and a bound of its wish."""
    if not isinstance(thing, tuple) or len(thing) != 2:
        return False
    world, bound = thing
    return is_integer(world) and 0 <= world < len(worlds) and is_bound_of(worlds[world][1], bound)


def _misses_one(worlds, places, row):
    """Return whether the row of this index misses the bound of one of the places in its world."""
    return not all([meets(worlds[world][0][row], [bound]) for world, bound in places])


def _set_of(indexes, bounds):
    """Return the set of the bounds that stand in the list, once or several times."""
    return mask_of([index in indexes for index in range(len(bounds))])
