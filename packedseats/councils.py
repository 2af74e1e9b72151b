"""Councils: seats with weights, and for each column a quota of the weight."""

from packedseats.errors import Wrong
from packedseats.kinds import is_integer

FEWEST_SEATS = 2
MOST_SEATS = 7
GREATEST_WEIGHT = 1000000
MOST_COLUMNS = 6


class Council:
    """The weights of some seats, and the quota of each column."""

    def __init__(self, weights, quotas):
        if not _are_weights(weights):
            raise Wrong(0)
        if not _are_quotas(quotas, sum(weights)):
            raise Wrong(1)
        self._weights = list(weights)
        self._quotas = list(quotas)

    def __eq__(self, other):
        return isinstance(other, Council) and self._weights == other._weights and self._quotas == other._quotas

    def __len__(self):
        return len(self._weights)

    def __repr__(self):
        return f"Council({self._weights}, {self._quotas})"

    def weights(self):
        """Return the list of the weights of the seats."""
        return list(self._weights)

    def quotas(self):
        """Return the list of the quotas of the columns."""
        return list(self._quotas)

    def total(self):
        """Return the sum of the weights."""
        return sum(self._weights)

    def width(self):
        """Return the number of columns."""
        return len(self._quotas)

    def allowance(self, side):
        """Return the greatest weight that may miss a bound of this side while the made row meets it."""
        column, way = side
        if way == "least":
            return self._quotas[column] - 1
        return self.total() - self._quotas[column]

    def mirrored(self):
        """Return the Council that makes from rows multiplied by -1 the row of this one, multiplied by -1."""
        return Council(self._weights, [self.total() + 1 - quota for quota in self._quotas])

    def part(self, columns):
        """Return the Council that settles only these columns, in the order of the list."""
        return Council(self._weights, [self._quotas[column] for column in columns])


def difference(one, other):
    """Return None if both Councils make the same rows, or else (column, seats) where they first differ."""
    groups = _groups_of_seats(len(one))
    for column in range(one.width()):
        for seats in groups:
            if _decides(one, column, seats) != _decides(other, column, seats):
                return (column, seats)
    return None


def _are_weights(thing):
    return _are_counts(thing, FEWEST_SEATS, MOST_SEATS, GREATEST_WEIGHT)


def _are_quotas(thing, total):
    return _are_counts(thing, 1, MOST_COLUMNS, total)


def _are_counts(thing, fewest, most, greatest):
    """Return whether thing is a list of fewest to most integers from 1 to greatest."""
    if not isinstance(thing, list) or not fewest <= len(thing) <= most:
        return False
    return all([is_integer(part) and 1 <= part <= greatest for part in thing])


def _groups_of_seats(many):
    """Return the ascending lists of seats that can be made of so many seats, in ascending order."""
    return sorted([[seat for seat in range(many) if mask >> seat & 1] for mask in range(1 << many)])


def _decides(council, column, seats):
    """Return whether these seats have together at least the quota of the column as weight."""
    weights = council.weights()
    return sum([weights[seat] for seat in seats]) >= council.quotas()[column]
