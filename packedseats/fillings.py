"""How seats of some weights can be put under some allowances, each seat under one of them.

A group is a mask of seats: its bit s is set if seat s belongs to it. A family is a mask of groups: its
bit g is set if group g belongs to it. So all ways to fill one allowance more are found by a few shifts.
"""


def allowances_of(council, sides):
    """Return the allowances of the sides at the council, in their order."""
    return [council.allowance(side) for side in sides]


def filling(weights, allowances):
    """Return for each seat the index of the allowance under which it is put, or None if there is no way."""
    fitting = [_fitting_groups(weights, allowance) for allowance in allowances]
    families = [1]
    for groups in fitting:
        families.append(_grown(families[-1], groups))
    if not _holds_all(families[-1], len(weights)):
        return None
    indexes = [0] * len(weights)
    left = _all_seats(len(weights))
    for index in reversed(range(len(allowances))):
        group = _last_group(families[index], fitting[index], left)
        indexes = [index if group >> seat & 1 else kept for seat, kept in enumerate(indexes)]
        left -= group
    return indexes


def can_fill(weights, allowances):
    """Return whether all seats can be put under the allowances."""
    family = 1
    for allowance in allowances:
        family = _grown(family, _fitting_groups(weights, allowance))
    return _holds_all(family, len(weights))


def filling_table(weights, allowances):
    """Return for each mask of allowances, in ascending order, whether all seats can be put under these."""
    families = [1]
    for allowance in allowances:
        groups = _fitting_groups(weights, allowance)
        families = families + [_grown(family, groups) for family in families]
    return [_holds_all(family, len(weights)) for family in families]


def _all_seats(many):
    return (1 << many) - 1


def _holds_all(family, many):
    """Return whether the group of all of so many seats belongs to the family."""
    return family >> _all_seats(many) & 1 == 1


def _fitting_groups(weights, allowance):
    """Return (group, family of the groups that share no seat with it) for each group within the allowance."""
    sums = [0]
    apart = [1]
    for seat, weight in enumerate(weights):
        sums = sums + [total + weight for total in sums]
        apart = [family | family << (1 << seat) for family in apart] + apart
    return [(group, apart[group]) for group, total in enumerate(sums) if total <= allowance]


def _grown(family, groups):
    """Return the family of what comes of a group of the family by putting one of the groups under one more."""
    grown = 0
    for group, apart in groups:
        # Groups without a common seat are added without carries, so one shift adds a group to all of them.
        grown |= (family & apart) << group
    return grown


def _last_group(family, groups, left):
    """Return one of the groups that, taken from the seats that are left, leaves a group of the family."""
    return [group for group, _ in groups if group & left == group and family >> (left - group) & 1][0]
