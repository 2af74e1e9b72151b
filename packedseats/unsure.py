"""Uncertain rows: what can surely be made from rows that are only known to lie in boxes."""

from packedseats.bounds import meets, sides_of
from packedseats.cases import Case
from packedseats.masks import mask_of


def sure(boxes, councils, wish):
    """Return ("sure", plan) for a plan that suits all rows in the boxes, or ("unsure", paper, rows)."""
    bounds = sorted(wish)
    meeting = [mask_of([_surely_meets(box, bound) for box in boxes]) for bound in bounds]
    case = Case(councils, bounds, sides_of(bounds), meeting, len(boxes))
    paper = case.paper()
    if paper is None:
        return ("sure", case.plan())
    return ("unsure", paper, [_row_missing(box, paper) for box in boxes])


def _surely_meets(box, bound):
    """Return whether all rows in the box meet the bound."""
    return meets(_worst_row(box, bound), [bound])


def _worst_row(box, bound):
    """Return a row in the box that misses the bound if any row in it does."""
    column, way, _ = bound
    row = [low for low, _ in box]
    if way == "most":
        row[column] = box[column][1]
    return tuple(row)


def _row_missing(box, paper):
    """Return a row in the box that misses one of the bounds, which some row in it does."""
    missable = [bound for bound in paper if not _surely_meets(box, bound)]
    return _worst_row(box, missable[0])
