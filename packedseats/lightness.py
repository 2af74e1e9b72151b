"""Which sets of sides are light for all of several councils. A set of sides is a mask of their indexes here."""

from packedseats.fillings import allowances_of, can_fill, heavy_table
from packedseats.masks import members, one_less, one_more


def is_light(councils, sides):
    """Return whether the sides are light for all of the councils."""
    return not any([can_fill(council.weights(), allowances_of(council, sides)) for council in councils])


def light_sets(councils, sides):
    """Return the subsets that are light for all of the councils and part of no other such subset."""
    ordered = sorted(sides)
    is_heavy = heavy_table(councils, ordered)
    light = [mask for mask in range(len(is_heavy)) if not is_heavy[mask]]
    greatest = [mask for mask in light if all([is_heavy[more] for more in one_more(mask, len(ordered))])]
    return _listed(ordered, greatest)


def heavy_sets(councils, sides):
    """Return the subsets that are heavy for one of the councils while none of their proper subsets is."""
    ordered = sorted(sides)
    is_heavy = heavy_table(councils, ordered)
    heavy = [mask for mask in range(len(is_heavy)) if is_heavy[mask]]
    least = [mask for mask in heavy if not any([is_heavy[less] for less in one_less(mask, len(ordered))])]
    return _listed(ordered, least)


def _listed(sides, masks):
    """Return the sets as lists of the sides, which are in ascending order, in ascending order."""
    return sorted([members(sides, mask) for mask in masks])
