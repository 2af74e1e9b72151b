"""Packings, which show that sides are heavy, and tables of loads, which show that they are light."""

from packedseats.fillings import allowances_of, filling
from packedseats.kinds import is_integer


def packing(council, sides):
    """Return for each seat the index of the side into which it is put, or None if the sides are light."""
    return filling(council.weights(), allowances_of(council, sides))


def first_packing(councils, sides):
    """Return (index, packing) for the first council for which the sides are heavy, as they are for one of them."""
    packings = [packing(council, sides) for council in councils]
    return [(index, found) for index, found in enumerate(packings) if found is not None][0]


def is_packing(council, sides, thing):
    """Return whether thing is a packing of the sides for the council."""
    if not isinstance(thing, list) or len(thing) != len(council):
        return False
    if not all([is_integer(index) and 0 <= index < len(sides) for index in thing]):
        return False
    weights = council.weights()
    filled = [sum([weights[seat] for seat, index in enumerate(thing) if index == at]) for at in range(len(sides))]
    return all([weight <= council.allowance(side) for weight, side in zip(filled, sides)])


def loads(council, sides):
    """Return the lists of loads, level by level, if the last one is empty, and otherwise None."""
    allowances = sorted(allowances_of(council, sides), reverse=True)
    table = [[()]]
    for weight in council.weights():
        table.append(_next_loads(table[-1], weight, allowances))
    if table[-1]:
        return None
    return table


def are_loads(council, sides, thing):
    """Return whether thing is a table of loads that shows that the sides are light."""
    weights = council.weights()
    if not _is_table(thing, len(weights) + 1):
        return False
    if () not in thing[0] or thing[-1]:
        return False
    allowances = sorted(allowances_of(council, sides), reverse=True)
    return all([_follows(thing[seat + 1], thing[seat], weight, allowances) for seat, weight in enumerate(weights)])


def _next_loads(level, weight, allowances):
    """Return all loads that fit and come from one of the level by this weight, in ascending order."""
    # A load that does not fit is passed over: whatever comes from it does not fit either.
    fitting = [load for load in level if _fits(load, allowances)]
    return sorted({grown for load in fitting for grown in _grown_loads(load, weight) if _fits(grown, allowances)})


def _grown_loads(load, weight):
    """Return the loads that come from this one by adding the weight to one of its items, or as a new item."""
    grown = [_descending([*load, weight])]
    for at, item in enumerate(load):
        grown.append(_descending([*load[:at], item + weight, *load[at + 1:]]))
    return grown


def _descending(items):
    return tuple(sorted(items, reverse=True))


def _fits(load, allowances):
    """Return whether the load fits under the allowances, which are in descending order."""
    if len(load) > len(allowances):
        return False
    return all([item <= allowance for item, allowance in zip(load, allowances)])


def _is_table(thing, levels):
    """Return whether thing is a list of so many lists of loads."""
    if not isinstance(thing, list) or len(thing) != levels:
        return False
    return all([isinstance(level, list) and all([_is_load(load) for load in level]) for level in thing])


def _is_load(thing):
    """Return whether thing is a tuple of positive integers in descending order."""
    if not isinstance(thing, tuple) or not all([is_integer(item) and item > 0 for item in thing]):
        return False
    return thing == _descending(thing)


def _follows(level, earlier, weight, allowances):
    """Return whether the level has at least all loads that fit and come from the earlier level."""
    there = set(level)
    for load in _next_loads(earlier, weight, allowances):
        if load not in there:
            return False
    return True
