"""Plans: sessions one after another, in which the rows of earlier ones may be seated again."""

from packedseats.errors import BadStep
from packedseats.kinds import is_integer
from packedseats.sessions import settle

MOST_STEPS = 4095


def follow(rows, councils, plan):
    """Return (made, row): the list of the rows that the steps of the plan make, and the row of its end."""
    if not _has_steps_and_end(plan):
        raise BadStep(0)
    steps, end = plan
    known = list(rows)
    for at, step in enumerate(steps):
        if not _is_step(step, councils, len(known)):
            raise BadStep(at)
        council, seats = step
        known.append(settle(councils[council], [known[seat] for seat in seats]))
    if not _is_index(end, len(known)):
        raise BadStep(len(steps))
    return (known[len(rows):], known[end])


def _has_steps_and_end(thing):
    """Return whether thing is a tuple of two things, the first of them a list that is not too long."""
    if not isinstance(thing, tuple) or len(thing) != 2:
        return False
    return isinstance(thing[0], list) and len(thing[0]) <= MOST_STEPS


def _is_step(thing, councils, known):
    """Return whether thing is a step of one of the councils, when so many rows can be seated."""
    if not isinstance(thing, tuple) or len(thing) != 2:
        return False
    council, seats = thing
    if not _is_index(council, len(councils)) or not isinstance(seats, list):
        return False
    return len(seats) == len(councils[council]) and all([_is_index(seat, known) for seat in seats])


def _is_index(thing, many):
    return is_integer(thing) and 0 <= thing < many
