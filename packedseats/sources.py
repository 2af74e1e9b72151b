"""How much a wish rests on the sources that told the rows. A set of sources is a mask of their places in order here."""

from packedseats.bounds import meets
from packedseats.cases import wish_case
from packedseats.errors import TooMany
from packedseats.masks import mask_of, members, one_less

MOST_SOURCES = 10


def strength(shelf, councils, wish):
    """Return (number, paper, names): how many sources must withdraw to make the wish impossible, why, and which."""
    case = _case_of(shelf, councils, wish)
    counts = {mask: len(_names(members(shelf, case.rows(mask)))) for mask in case.light()}
    number = min(list(counts.values()))
    paper = case.first([mask for mask in counts if counts[mask] == number])
    return (number, paper, _names([pair for pair in shelf if meets(pair[1], paper)]))


def enough(shelf, councils, wish):
    """Return, in order, the least sets of sources whose rows alone make the wish possible."""
    names = _names(shelf)
    if len(names) > MOST_SOURCES:
        raise TooMany(MOST_SOURCES)
    case = _case_of(shelf, councils, wish)
    # The wish is possible as long as each light set of its bounds is met by a row of some source that is left.
    needed = sorted({_told_by(names, members(shelf, case.rows(mask))) for mask in case.light()})
    suffices = [all([group & some for some in needed]) for group in range(1 << len(names))]
    groups = [group for group, is_enough in enumerate(suffices) if is_enough]
    least = [group for group in groups if not any([suffices[less] for less in one_less(group, len(names))])]
    return sorted([members(names, group) for group in least])


def _case_of(shelf, councils, wish):
    return wish_case([row for _, row in shelf], councils, wish)


def _names(shelf):
    """Return, in ascending order, the different sources that tell rows of the shelf."""
    return sorted({source for source, _ in shelf})


def _told_by(names, shelf):
    """Return which of the names are sources of the shelf."""
    sources = {source for source, _ in shelf}
    return mask_of([name in sources for name in names])
