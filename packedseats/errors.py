"""The errors of the package: CouncilError and its direct subclasses."""


class CouncilError(ValueError):
    """A call was given something that it cannot work with."""


class Wrong(CouncilError):
    """The argument at this place is not as described."""

    def __init__(self, place):
        self.place = place


class BadStep(CouncilError):
    """The step at this index of a plan is not as described."""

    def __init__(self, at):
        self.at = at


class TooMany(CouncilError):
    """There are more things than this limit allows."""

    def __init__(self, limit):
        self.limit = limit


class NoDeed(CouncilError):
    """The value is not a deed."""


class Told(CouncilError):
    """This source has told the row already."""

    def __init__(self, source):
        self.source = source


class NotTold(CouncilError):
    """This source has not told the row, or has withdrawn it."""

    def __init__(self, source):
        self.source = source


class Taken(CouncilError):
    """Something else has this name."""

    def __init__(self, name):
        self.name = name


class Unknown(CouncilError):
    """Nothing has this name."""

    def __init__(self, name):
        self.name = name


class Broken(CouncilError):
    """The deed or the line at this index of a log cannot be done."""

    def __init__(self, at):
        self.at = at


class Nothing(CouncilError):
    """There is no deed to undo or to do again."""


class NoText(CouncilError):
    """The value is not the text of such a thing."""


class NoCommand(CouncilError):
    """The value is not a line that a desk knows."""
