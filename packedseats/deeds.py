"""Deeds: what can be done to a book."""

from packedseats.councils import Council
from packedseats.kinds import is_name, is_row, is_wish

ROW_WORDS = ("tell", "withdraw")
NAME_WORDS = ("close", "drop")


def is_deed(thing, width):
    """Return whether thing is a deed for a book of the width."""
    if not isinstance(thing, tuple) or len(thing) not in (2, 3):
        return False
    if not isinstance(thing[0], str) or not is_name(thing[1]):
        return False
    if len(thing) == 2:
        return thing[0] in NAME_WORDS
    return _is_part(thing[0], thing[2], width)


def copied_deed(deed):
    """Return the deed with nothing in it that its owner can change, and with a wish in ascending order."""
    if deed[0] == "want":
        return ("want", deed[1], sorted(deed[2]))
    if deed[0] == "found":
        return ("found", deed[1], copied_council(deed[2]))
    return deed


def copied_council(council):
    """Return a Council that is equal to this one."""
    return Council(council.weights(), council.quotas())


def _is_part(word, thing, width):
    """Return whether thing is what stands behind the name in a deed with this word."""
    if word in ROW_WORDS:
        return is_row(thing, width)
    if word == "found":
        return isinstance(thing, Council) and thing.width() == width
    return word == "want" and is_wish(thing, width)
