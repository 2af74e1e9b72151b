"""A plain book for the tests: it keeps a log, and goes through it from the start whenever it is asked."""

from packedseats.councils import Council
from packedseats.errors import CouncilError
from packedseats.wishes import decide, is_possible
from tests.plain import TWELVE_SIDES, some_council, some_row

SOURCES = ["ann", "bob", "cyd"]
COUNCILS = ["alpha", "beta", "gamma", "delta", "eps", "zeta"]
WANTS = ["big", "far", "high", "low", "mid", "near", "wide", "you", "zzzzzzzz"]


class Refused(Exception):
    """What the document calls an error: its name and its fields."""


def outcome(function, *arguments):
    """Return ("returned", result) or ("raised", name, fields)."""
    try:
        return ("returned", function(*arguments))
    except CouncilError as error:
        return ("raised", type(error).__name__, list(vars(error).values()))
    except Refused as error:
        return ("raised", error.args[0], list(error.args[1:]))


def copied(deed):
    return (*deed[:2], *[sorted(part) if isinstance(part, list) else part for part in deed[2:]])


class PlainBook:
    """The promises [100] and [101], one after another; it takes deeds that are deeds, or None for what is none."""

    def __init__(self, width):
        self.width = width
        self.deeds = []
        self.undone = []

    def state(self, count=None):
        """Return (told, councils, wants) after so many deeds."""
        told, councils, wants = [], {}, {}
        for deed in self.deeds[:count]:
            do_to(told, councils, wants, deed)
        return told, councils, wants

    def outlooks(self, count=None):
        told, councils, wants = self.state(count)
        rows, groups = [row for _, row in told], [councils[name] for name in sorted(councils)]
        return {name: (wish, is_possible(rows, groups, wish)) for name, wish in wants.items()}

    def changes(self, before):
        after = self.outlooks()
        same = [name for name in sorted(after) if name in before and before[name][0] == after[name][0]]
        gained = [name for name in same if after[name][1] and not before[name][1]]
        return (gained, [name for name in same if before[name][1] and not after[name][1]])

    def do(self, deed):
        if deed is None:
            raise Refused("NoDeed")
        if len(self.deeds) == 100:
            raise Refused("TooMany", 100)
        before, state = self.outlooks(), self.state()
        do_to(*state, deed)
        self.deeds, self.undone = [*self.deeds, copied(deed)], []
        return self.changes(before)

    def insert(self, at, deed):
        if type(at) is not int or not 0 <= at <= len(self.deeds):
            raise Refused("Wrong", 0)
        if len(self.deeds) == 100:
            raise Refused("TooMany", 100)
        before, state = self.outlooks(), ([], {}, {})
        longer = [*self.deeds[:at], deed, *self.deeds[at:]]
        for index, other in enumerate(longer):
            if other is None or outcome(do_to, *state, other)[0] == "raised":
                raise Refused("Broken", index)
        self.deeds, self.undone = [copied(other) for other in longer], []
        return self.changes(before)

    def back(self):
        if not self.deeds:
            raise Refused("Nothing")
        self.undone.append(self.deeds[-1])
        self.deeds = self.deeds[:-1]
        return self.undone[-1]

    def again(self):
        if not self.undone:
            raise Refused("Nothing")
        self.deeds = [*self.deeds, self.undone.pop()]
        return self.deeds[-1]

    def answer(self, name):
        told, councils, wants = self.state()
        if name not in wants:
            raise Refused("Unknown", name)
        return decide([row for _, row in told], [councils[other] for other in sorted(councils)], wants[name])

    def since(self, name):
        now = self.outlooks()
        if name not in now:
            raise Refused("Unknown", name)
        good = [self.outlooks(count).get(name) == now[name] for count in range(len(self.deeds) + 1)]
        return min(count for count in range(len(good)) if all(good[count:]))

    def past(self, count):
        if type(count) is not int or not 0 <= count <= len(self.deeds):
            raise Refused("Wrong", 0)
        book = PlainBook(self.width)
        book.deeds = self.deeds[:count]
        return book

    def copied(self):
        book = PlainBook(self.width)
        book.deeds, book.undone = list(self.deeds), list(self.undone)
        return book


def do_to(told, councils, wants, deed):
    """Do a deed to these, or raise what it raises."""
    word, name = deed[:2]
    if word == "tell":
        if (name, deed[2]) in told:
            raise Refused("Told", name)
        if len(told) == 40:
            raise Refused("TooMany", 40)
        told.append((name, deed[2]))
    elif word == "withdraw":
        if (name, deed[2]) not in told:
            raise Refused("NotTold", name)
        told.remove((name, deed[2]))
    else:
        things, most = (councils, 5) if word in ("found", "close") else (wants, 8)
        if word in ("close", "drop"):
            if name not in things:
                raise Refused("Unknown", name)
            del things[name]
        else:
            if name in things:
                raise Refused("Taken", name)
            if len(things) == most:
                raise Refused("TooMany", most)
            things[name] = sorted(deed[2]) if word == "want" else deed[2]


def some_deed(chance, width, log):
    """Return a deed that fits the log more or less: it often takes up a name that is there."""
    words = ["tell"] * 4 + ["withdraw"] * 2 + ["found"] * 2 + ["close"] + ["want"] * 3 + ["drop"]
    word = chance.choice(words)
    if word in ("tell", "withdraw"):
        told = [deed[1:] for deed in log if deed[0] == "tell"]
        if told and chance.random() < (0.8 if word == "withdraw" else 0.1):
            return (word, *chance.choice(told))
        return (word, chance.choice(SOURCES), some_row(chance, width, 0, 2))
    if word == "found":
        return (word, chance.choice(COUNCILS), some_council(chance, width, chance.randint(2, 4)))
    if word == "close":
        return (word, chance.choice(COUNCILS))
    if word == "drop":
        return (word, chance.choice(WANTS))
    sides = chance.sample(TWELVE_SIDES[:2 * width], chance.randint(0, min(4, 2 * width)))
    return (word, chance.choice(WANTS), [(*side, chance.randint(0, 2)) for side in sides])


def not_deeds(width):
    """Return values that are no deeds for a book of the width."""
    row, wish, council = (0,) * width, [(0, "least", 1)], Council([1, 1], [1] * width)
    things = [
        (), ("tell",), ("tell", "ann"), ("tell", "ann", row, row), ("tell", "ann", list(row)), ["tell", "ann", row],
        ("tell", "ann", row + (0,)), ("tell", "ann", row[1:]), ("tell", "ann", (True, *row[1:])),
        ("tell", "ann", ("0", *row[1:])), ("tell", "ann", (None, *row[1:])), ("tell", "ann", (10 ** 18 + 1, *row[1:])),
        ("tell", "ann", (-10 ** 18 - 1, *row[1:])), ("tell", "ann", (10 ** 39, *row[1:])), ("tell", "ann", wish),
        ("tell", "ann", "0,0"), ("tell", "ann", council), ("tell", "ann", None), ("tell", row, "ann"),
        ("tell", "", row), ("tell", "Ann", row), ("tell", "ann1", row), ("tell", "ann\n", row), ("tell", "a b", row),
        ("tell", "abcdefghi", row), ("tell", b"ann", row), ("tell", 1, row), ("tell", None, row), ("tell", True, row),
        ("tell", ["ann"], row), ("tell", ("ann",), row), ("Tell", "ann", row), ("tells", "ann", row),
        ("tell ", "ann", row), (b"tell", "ann", row), (None, "ann", row), (["tell"], "ann", row), (0, "ann", row),
        (True, "ann", row), ({}, "ann", row), ("", "ann", row),
        ("withdraw",), ("withdraw", "ann"), ("withdraw", "ann", list(row)), ["withdraw", "ann", row],
        ("withdraw", "ann", row + (0,)), ("withdraw", "ann", row[1:]), ("withdraw", "ann", (False, *row[1:])),
        ("withdraw", "ANN", row), ("withdraw", "ann", row, 0), ("withdraw", "ann", wish), ("withdraw", 0, row),
        ("found", "max"), ("found", "max", None), ("found", "max", council, council), ["found", "max", council],
        ("found", "max", Council([1, 1], [1] * (width + 1)) if width < 6 else Council([1, 1], [1])),
        ("found", "max", Council([1, 1], [1] * (width - 1)) if width > 1 else Council([1, 1], [1, 1])),
        ("found", "max", [1, 1]), ("found", "max", ([1, 1], [1] * width)), ("found", "max", "1,1/1"),
        ("found", "max", Council), ("found", "max", row), ("found", "max", wish), ("found", "", council),
        ("found", "Max", council), ("found", 5, council), ("found", council, "max"),
        ("close",), ("close", ""), ("close", "Max"), ("close", "max", council), ("close", "max", row), ["close", "max"],
        ("close", "max", None), ("close", None), ("close", 5), ("close", True), ("close", ["max"]), ("close", council),
        ("close", "max\n"), ("close", "abcdefghi"), ("closed", "max"),
        ("want", "big"), ("want", "big", tuple(wish)), ("want", "big", None), ("want", "big", wish, wish),
        ["want", "big", wish], ("want", "big", [[0, "least", 1]]), ("want", "big", wish * 2), ("want", "big", "-"),
        ("want", "big", [(0, "least", 1), (0, "least", 2)]), ("want", "big", [(0, "Least", 1)]),
        ("want", "big", [(width, "least", 1)]), ("want", "big", [(-1, "least", 1)]),
        ("want", "big", [(False, "least", 1)]), ("want", "big", [(0, "least", True)]), ("want", "big", [(0, "least")]),
        ("want", "big", [(0, "least", 10 ** 18 + 1)]), ("want", "big", [(0, "least", None)]), ("want", "big", [None]),
        ("want", "big", {}), ("want", "big", [(0, "least", 1, 1)]), ("want", "big", {(0, "least", 1)}),
        ("want", "big", row), ("want", "big", council), ("want", "BIG", wish), ("want", 1, wish), ("want", wish, "big"),
        ("drop",), ("drop", ""), ("drop", "Big"), ("drop", "big", wish), ("drop", "big", "big"), ["drop", "big"],
        ("drop", 1), ("drop", None), ("drop", ("big",)), ("dropped", "big"), "drop big", ("drop big",),
        ("back",), ("again",), ("insert", 0, ("drop", "big")), (("drop", "big"),), ("log", "big"), ("tell", "ann", 0),
        (1, 2), (1, 2, 3), ((), ()), ([], []), (None, None), ("", ""), ("drop", {}), ({}, "big"),
    ]
    return things
