"""Sessions: what a council makes of a row for each of its seats."""

from packedseats.bounds import meets


def settle(council, rows):
    """Return the row that the session makes."""
    weights = council.weights()
    columns = [[row[column] for row in rows] for column in range(council.width())]
    return tuple([_settled(entries, weights, quota) for entries, quota in zip(columns, council.quotas())])


def weight_missing(council, rows, bound):
    """Return the weight of all seats whose rows miss the bound."""
    return sum([weight for row, weight in zip(rows, council.weights()) if not meets(row, [bound])])


def origins(council, rows):
    """Return for each column the ascending list of the seats that have the entry of the made row there."""
    made = settle(council, rows)
    return [[seat for seat, row in enumerate(rows) if row[column] == entry] for column, entry in enumerate(made)]


def _settled(entries, weights, quota):
    """Return the least entry for which the seats with at most this entry reach the quota."""
    lacking = quota
    for entry, weight in sorted(zip(entries, weights)):
        lacking -= weight
        if lacking <= 0:
            break
    return entry
