"""Seatings: how to give rows to seats of some weights so that no bound is missed by too much weight."""


def seating(weights, allowances, lacking):
    """Return for each seat the index of a row, or None if there is no way.

    lacking tells for each row, as a mask, which bounds it misses. For each bound, the weight of the seats whose rows
    miss it may be at most its allowance.
    """
    # Heavy seats have the least choice, so they are asked first.
    order = [seat for _, seat in sorted([(-weight, seat) for seat, weight in enumerate(weights)])]
    places = Seater([weights[seat] for seat in order], lacking).places(0, list(allowances))
    if places is None:
        return None
    return [places[order.index(seat)] for seat in range(len(weights))]


class Seater:
    """Gives rows to seats one after another, and keeps in mind what led nowhere."""

    def __init__(self, weights, lacking):
        self._weights = weights
        self._lacking = lacking
        self._vain = {}

    def places(self, seat, left):
        """Return the indexes of rows for this seat and those behind it, if so much of the allowances is left."""
        if seat == len(self._weights):
            return []
        if (seat, tuple(left)) not in self._vain:
            for row, lacked in enumerate(self._lacking):
                rest = _reduced(left, lacked, self._weights[seat])
                places = None if min(rest) < 0 else self.places(seat + 1, rest)
                if places is not None:
                    return [row, *places]
            self._vain[(seat, tuple(left))] = True
        return None


def _reduced(left, lacked, weight):
    """Return what is left of the allowances when a seat of this weight misses these bounds."""
    return [room - weight if lacked >> at & 1 else room for at, room in enumerate(left)]
