"""Books: told rows, councils and wants, while they come and go by deeds."""

from packedseats.deeds import copied_council, copied_deed, is_deed
from packedseats.errors import Broken, CouncilError, NoDeed, Nothing, TooMany, Unknown, Wrong
from packedseats.kinds import is_integer
from packedseats.standings import Standing, changes
from packedseats.wishes import decide

MOST_DEEDS = 100
GREATEST_WIDTH = 6


class Book:
    """A width and a log of deeds. A moment is a tuple (deed, standing) of a deed and what it leaves."""

    def __init__(self, width):
        if not is_integer(width) or not 1 <= width <= GREATEST_WIDTH:
            raise Wrong(0)
        self._width = width
        self._moments = []
        self._undone = []

    def __eq__(self, other):
        return isinstance(other, Book) and self._width == other._width and self._deeds() == other._deeds()

    def __len__(self):
        return len(self._moments)

    def do(self, deed):
        """Do the deed; return (gained, lost), the names of the wants that are possible now, or are no longer."""
        if not is_deed(deed, self._width):
            raise NoDeed()
        if len(self._moments) == MOST_DEEDS:
            raise TooMany(MOST_DEEDS)
        before = self._standing()
        kept = copied_deed(deed)
        after = before.after(kept)
        told = changes(before, after)
        self._moments.append((kept, after))
        self._undone = []
        return told

    def insert(self, at, deed):
        """Put the deed into the log before the one at this index; return (gained, lost)."""
        if not self._is_place(at):
            raise Wrong(0)
        if len(self._moments) == MOST_DEEDS:
            raise TooMany(MOST_DEEDS)
        before = self._standing()
        later = self._deeds()[at:]
        moments = _continued(self._width, self._moments[:at], [deed, *later])
        told = changes(before, moments[-1][1])
        self._moments = moments
        self._undone = []
        return told

    def back(self):
        """Undo the last deed, and return it."""
        if not self._moments:
            raise Nothing()
        self._undone.append(self._moments.pop())
        return copied_deed(self._undone[-1][0])

    def again(self):
        """Do the deed again that was undone last, and return it."""
        if not self._undone:
            raise Nothing()
        self._moments.append(self._undone.pop())
        return copied_deed(self._moments[-1][0])

    def width(self):
        """Return the width."""
        return self._width

    def log(self):
        """Return the list of the deeds that are done and not undone."""
        return [copied_deed(deed) for deed in self._deeds()]

    def rows(self):
        """Return the list of the tuples (source, row), in the order in which they were told."""
        return self._standing().told()

    def councils(self):
        """Return the list of the tuples (name, council), in ascending order of the names."""
        return [(name, copied_council(council)) for name, council in self._standing().councils()]

    def wants(self):
        """Return the list of the tuples (name, wish), in ascending order of the names."""
        return self._standing().wants()

    def answer(self, name):
        """Return ("plan", plan) or ("never", paper) for the want of this name."""
        wish, _ = self._outlook(name)
        councils = [council for _, council in self._standing().councils()]
        return decide([row for _, row in self.rows()], councils, wish)

    def since(self, name):
        """Return after how many deeds the want came to be, and to be possible or not, as it is now."""
        now = self._outlook(name)
        count = len(self._moments)
        while count > 1 and self._moments[count - 2][1].outlook(name) == now:
            count -= 1
        return count

    def past(self, count):
        """Return a Book with so many deeds, the first ones of the log."""
        if not self._is_place(count):
            raise Wrong(0)
        return self.holding(self._moments[:count], [])

    def copied(self):
        """Return a Book with the same log, and the same deeds to do again."""
        return self.holding(self._moments, self._undone)

    def holding(self, moments, undone):
        """Return a Book of the same width with these moments, and with these undone ones to do again."""
        book = Book(self._width)
        book._moments = list(moments)
        book._undone = list(undone)
        return book

    def _deeds(self):
        """Return the deeds of the log, which nobody else may change."""
        return [deed for deed, _ in self._moments]

    def _standing(self):
        """Return what the deeds of the log leave."""
        if not self._moments:
            return Standing([], {}, {})
        return self._moments[-1][1]

    def _outlook(self, name):
        """Return (wish, whether it is possible) for the want of this name."""
        outlook = self._standing().outlook(name)
        if outlook is None:
            raise Unknown(name)
        return outlook

    def _is_place(self, thing):
        """Return whether thing is an integer from 0 to the length of the log."""
        return is_integer(thing) and 0 <= thing <= len(self._moments)


def book_of(width, deeds):
    """Return a Book in which these things were done, or raise Broken(at) for the first one that cannot be done."""
    return Book(width).holding(_continued(width, [], deeds), [])


def _continued(width, moments, deeds):
    """Return these moments and those of the deeds behind them, or raise Broken(at) for a deed that cannot be done."""
    continued = list(moments)
    standing = moments[-1][1] if moments else Standing([], {}, {})
    for deed in deeds:
        if len(continued) == MOST_DEEDS or not is_deed(deed, width):
            raise Broken(len(continued))
        kept = copied_deed(deed)
        try:
            standing = standing.after(kept)
        except CouncilError:
            raise Broken(len(continued)) from None
        continued.append((kept, standing))
    return continued
