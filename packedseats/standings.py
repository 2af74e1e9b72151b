"""Standings: what the deeds of a book leave. A deed makes a new standing and leaves the old one as it is."""

from packedseats.errors import NotTold, Taken, Told, TooMany, Unknown
from packedseats.families import can_meet, heavy_family
from packedseats.masks import union_of

MOST_ROWS = 40
MOST_COUNCILS = 5
MOST_WANTS = 8


class KnownCouncil:
    """A Council, and what is heavy for it, which is found when it is asked for: many standings can ask."""

    def __init__(self, council):
        self._council = council
        self._heavy = None

    def council(self):
        """Return the Council."""
        return self._council

    def heavy(self):
        """Return the family of the sets of sides that are heavy for the Council."""
        if self._heavy is None:
            self._heavy = heavy_family([self._council])
        return self._heavy


class Standing:
    """The told rows with their sources, in order, and the councils and wants by name."""

    def __init__(self, told, councils, wants):
        self._told = told
        self._councils = councils
        self._wants = wants
        self._outlooks = {}

    def after(self, deed):
        """Return the standing after the deed, or raise what the deed raises."""
        word, name, part = deed[0], deed[1], deed[-1]
        actions = {
            "tell": self._tell, "withdraw": self._withdraw, "found": self._add_council, "close": self._close,
            "want": self._add_want, "drop": self._drop,
        }
        action = actions[word]
        return action(name, part)

    def told(self):
        """Return the list of the tuples (source, row), in the order in which they were told."""
        return list(self._told)

    def councils(self):
        """Return the list of the tuples (name, council), in ascending order of the names."""
        return [(name, self._councils[name].council()) for name in sorted(self._councils)]

    def wants(self):
        """Return the list of the tuples (name, wish), in ascending order of the names."""
        return [(name, list(self._wants[name])) for name in sorted(self._wants)]

    def outlook(self, name):
        """Return (wish, whether it is possible) for the want of this name, or None if there is none."""
        if name not in self._wants:
            return None
        if name not in self._outlooks:
            self._outlooks[name] = (self._wants[name], self._is_possible(self._wants[name]))
        return self._outlooks[name]

    def _is_possible(self, wish):
        heavy = union_of([known.heavy() for known in self._councils.values()])
        return can_meet([row for _, row in self._told], heavy, wish)

    def _tell(self, source, row):
        if (source, row) in self._told:
            raise Told(source)
        if len(self._told) == MOST_ROWS:
            raise TooMany(MOST_ROWS)
        return Standing([*self._told, (source, row)], self._councils, self._wants)

    def _withdraw(self, source, row):
        if (source, row) not in self._told:
            raise NotTold(source)
        return Standing([pair for pair in self._told if pair != (source, row)], self._councils, self._wants)

    def _add_council(self, name, council):
        _check_new(name, self._councils, MOST_COUNCILS)
        return Standing(self._told, {**self._councils, name: KnownCouncil(council)}, self._wants)

    def _close(self, name, _):
        return Standing(self._told, _without(self._councils, name), self._wants)

    def _add_want(self, name, wish):
        _check_new(name, self._wants, MOST_WANTS)
        return Standing(self._told, self._councils, {**self._wants, name: wish})

    def _drop(self, name, _):
        return Standing(self._told, self._councils, _without(self._wants, name))


def changes(before, after):
    """Return (gained, lost): the names of the wants that became possible from one standing to the other, or stopped."""
    gained, lost = [], []
    for name, _ in after.wants():
        earlier, later = before.outlook(name), after.outlook(name)
        if earlier is None or earlier[0] != later[0]:
            continue
        if later[1] and not earlier[1]:
            gained.append(name)
        if earlier[1] and not later[1]:
            lost.append(name)
    return (gained, lost)


def _check_new(name, things, most):
    """Raise an error if the name is taken, or if there are as many things with names as there may be."""
    if name in things:
        raise Taken(name)
    if len(things) == most:
        raise TooMany(most)


def _without(things, name):
    """Return the things by name without the one of this name."""
    if name not in things:
        raise Unknown(name)
    return {other: things[other] for other in things if other != name}
