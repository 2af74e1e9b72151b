"""How seats of some weights can be put under some allowances, each seat under one of them.

A group is a mask of seats: its bit s is set if seat s belongs to it. A family is a mask of groups: its
bit g is set if group g belongs to it. So all ways to fill one allowance more are found by a few shifts.
"""


def allowances_of(council, sides):
    """Return the allowances of the sides at the council, in their order."""
    return [council.allowance(side) for side in sides]


def filling(weights, allowances):
    """Return for each seat the index of the allowance under which it is put, or None if there is no way."""
    fitting = _fitting_groups(weights, allowances)
    families = [1]
    for groups in fitting:
        families.append(_grown(families[-1], groups))
    if not _holds_all(families[-1], len(weights)):
        return None
    indexes = [0] * len(weights)
    left = _all_seats(len(weights))
    for index in reversed(range(len(allowances))):
        group = _last_group(families[index], fitting[index], left)
        indexes = [index if group >> seat & 1 else kept for seat, kept in enumerate(indexes)]
        left -= group
    return indexes


def can_fill(weights, allowances):
    """Return whether all seats can be put under the allowances."""
    family = 1
    for groups in _fitting_groups(weights, allowances):
        family = _grown(family, groups)
    return _holds_all(family, len(weights))


def heavy_table(councils, sides):
    """Return for each mask of the sides, in ascending order, whether they are heavy for one of the councils."""
    filler = Filler(councils, sides)
    table = [filler.begun()]
    for at in range(len(sides)):
        table = table + [filler.grown(families, at) for families in table]
    return [families is None for families in table]


def light_lists(councils, sides, longest):
    """Return the ascending lists of one to so many indexes of sides that are light for all of the councils.

    An index may stand in a list several times; then its side is filled as often. Short lists come first, and lists
    of one length are in ascending order.
    """
    filler = Filler(councils, sides)
    level = [([], filler.begun())]
    found = []
    for _ in range(longest):
        # What comes of a heavy list is heavy, so it is not followed up.
        longer = [([*indexes, at], filler.grown(families, at))
                  for indexes, families in level for at in range(max(indexes, default=0), len(sides))]
        level = [(indexes, families) for indexes, families in longer if families is not None]
        found += [indexes for indexes, _ in level]
    return found


class Filler:
    """Fills allowances of some sides with the seats of several councils: it keeps a family for each of them."""

    def __init__(self, councils, sides):
        able = [council for council in councils if _has_room_for_each_seat(council, sides)]
        self._wholes = [_all_seats(len(council)) for council in able]
        self._fitting = [_fitting_groups(council.weights(), allowances_of(council, sides)) for council in able]

    def begun(self):
        """Return the families before any allowance is filled."""
        return [1] * len(self._wholes)

    def grown(self, families, at):
        """Return the families with the allowance of the side at this index more, or None if one holds all seats."""
        if families is None:
            # With more sides a heavy set stays heavy, so its families need not be known.
            return None
        grown = [_grown(family, groups[at]) for family, groups in zip(families, self._fitting)]
        if any([family >> whole & 1 for family, whole in zip(grown, self._wholes)]):
            return None
        return grown


def _all_seats(many):
    return (1 << many) - 1


def _holds_all(family, many):
    """Return whether the group of all of so many seats belongs to the family."""
    return family >> _all_seats(many) & 1 == 1


def _has_room_for_each_seat(council, sides):
    """Return whether some allowance is enough for the heaviest seat: otherwise every set of the sides is light."""
    return max(council.weights()) <= max(allowances_of(council, sides), default=0)


def _fitting_groups(weights, allowances):
    """Return for each allowance a list of (group, family of the groups that share no seat with it) that fit."""
    sums = [0]
    apart = [1]
    for seat, weight in enumerate(weights):
        sums = sums + [total + weight for total in sums]
        apart = [family | family << (1 << seat) for family in apart] + apart
    return [[(group, apart[group]) for group, total in enumerate(sums) if total <= most] for most in allowances]


def _grown(family, groups):
    """Return the family of what comes of a group of the family by putting one of the groups under one more."""
    grown = 0
    for group, apart in groups:
        # Groups without a common seat are added without carries, so one shift adds a group to all of them.
        grown |= (family & apart) << group
    return grown


def _last_group(family, groups, left):
    """Return one of the groups that, taken from the seats that are left, leaves a group of the family."""
    return [group for group, _ in groups if group & left == group and family >> (left - group) & 1][0]
