"""What kind of thing a value is: an integer, a value, a name, a row, a side, a bound or a wish."""

GREATEST_VALUE = 10 ** 18
LONGEST_NAME = 8
WAYS = ("least", "most")


def is_integer(thing):
    """Return whether thing is an integer, True and False not counted."""
    return isinstance(thing, int) and not isinstance(thing, bool)


def is_value(thing):
    """Return whether thing is an integer that may stand in a row or a bound."""
    return is_integer(thing) and -GREATEST_VALUE <= thing <= GREATEST_VALUE


def is_name(thing):
    """Return whether thing is a string of one to eight lowercase letters a to z."""
    if not isinstance(thing, str) or not 1 <= len(thing) <= LONGEST_NAME:
        return False
    return all(["a" <= sign <= "z" for sign in thing])


def is_row(thing, width):
    """Return whether thing is a tuple of as many values as the width says."""
    if not isinstance(thing, tuple) or len(thing) != width:
        return False
    return all([is_value(entry) for entry in thing])


def is_side(thing, width):
    """Return whether thing is a tuple (column, way)."""
    if not isinstance(thing, tuple) or len(thing) != 2:
        return False
    column, way = thing
    return _is_column(column, width) and _is_way(way)


def is_bound(thing, width):
    """Return whether thing is a tuple (column, way, value)."""
    if not isinstance(thing, tuple) or len(thing) != 3:
        return False
    return is_side(thing[:2], width) and is_value(thing[2])


def is_wish(thing, width):
    """Return whether thing is a list of bounds of different sides."""
    if not isinstance(thing, list) or not all([is_bound(part, width) for part in thing]):
        return False
    return len({bound[:2] for bound in thing}) == len(thing)


def _is_column(thing, width):
    return is_integer(thing) and 0 <= thing < width


def _is_way(thing):
    # Only strings are compared: other kinds of values decide for themselves what they are equal to.
    return isinstance(thing, str) and thing in WAYS
