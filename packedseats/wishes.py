"""Whether a wish is possible: a plan that ends with a row that meets it, or a paper that rules such rows out."""

from packedseats.bounds import meets, sides_of
from packedseats.cases import wish_case
from packedseats.kinds import is_integer
from packedseats.lightness import is_light


def decide(rows, councils, wish):
    """Return ("plan", plan) with a plan whose end meets the wish, or ("never", paper)."""
    case = wish_case(rows, councils, wish)
    paper = case.paper()
    if paper is None:
        return ("plan", case.plan())
    return ("never", paper)


def is_possible(rows, councils, wish):
    """Return whether a row that can be made meets the wish."""
    return wish_case(rows, councils, wish).is_possible()


def is_paper(rows, councils, wish, thing):
    """Return whether thing is a paper: light and ascending bounds of the wish, all of them met by no told row."""
    if not isinstance(thing, list) or not all([is_bound_of(wish, part) for part in thing]):
        return False
    if not ascends(thing):
        return False
    return is_light(councils, sides_of(thing)) and not any([meets(row, thing) for row in rows])


def is_bound_of(wish, thing):
    """Return whether thing is one of the bounds of the wish, and not only equal to one as (False, "least", 1) is."""
    if not isinstance(thing, tuple) or len(thing) != 3:
        return False
    column, way, value = thing
    return is_integer(column) and isinstance(way, str) and is_integer(value) and thing in wish


def ascends(things):
    """Return whether each of the things is less than the next one."""
    return all([lesser < greater for lesser, greater in zip(things, things[1:])])
