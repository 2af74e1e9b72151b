"""The power of councils: what some of them add to others, by the sets of sides that are heavy for them."""

from packedseats.bounds import every_side
from packedseats.families import heavy_family
from packedseats.fillings import heavy_table
from packedseats.lightness import heavy_sets
from packedseats.masks import fewest_first, mask_of, members, union_of


def witness_rows(width, sides):
    """Return for each of the sides a row that misses the bound with this side and the value 1, and no other one."""
    return [_witness_row(width, side) for side in sides]


def compare(council, councils):
    """Return ("more", sides) if the council adds something to the others, or ("nothing", table)."""
    sides = every_side(council.width())
    tables = [heavy_table([other], sides) for other in councils]
    table = [(heavy, _first_heavy(tables, _place_of(sides, heavy))) for heavy in heavy_sets([council], sides)]
    # The fewest sides that are light for the others are among these: no less of them are heavy for the council.
    lacking = [heavy for heavy, index in table if index is None]
    if lacking:
        return ("more", fewest_first(lacking))
    return ("nothing", table)


def same_power(councils, others):
    """Return None if both lists have the same power, or (which, sides): which of them makes more, and why."""
    sides = every_side((councils + others)[0].width())
    tables = [heavy_table(councils, sides), heavy_table(others, sides)]
    for which, able in enumerate(tables):
        unable = tables[1 - which]
        lacking = [mask for mask, is_heavy in enumerate(able) if is_heavy and not unable[mask]]
        if lacking:
            return (which, fewest_first([members(sides, mask) for mask in lacking]))
    return None


def fewest(councils):
    """Return, in order, the lists of indexes of the fewest councils that have the same power as all of them."""
    families = [heavy_family([council]) for council in councils]
    groups = [members(list(range(len(councils))), mask) for mask in range(1 << len(councils))]
    able = [group for group in groups if union_of([families[index] for index in group]) == union_of(families)]
    least = min([len(group) for group in able])
    return sorted([group for group in able if len(group) == least])


def _witness_row(width, side):
    column, way = side
    row = [1] * width
    row[column] = 0 if way == "least" else 2
    return tuple(row)


def _place_of(sides, some):
    """Return the place in a heavy table of the sides at which it tells of some of them."""
    return mask_of([side in some for side in sides])


def _first_heavy(tables, place):
    """Return the least index of a heavy table that says at this place that the sides are heavy, or None."""
    heavy = [index for index, is_heavy in enumerate(tables) if is_heavy[place]]
    return heavy[0] if heavy else None
