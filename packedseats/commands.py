"""Commands: lines that do something to a Book or ask it something, and what is answered."""

from packedseats.errors import NoCommand, NoText, Unknown
from packedseats.kinds import is_name
from packedseats.notation import read_deed, read_integer, show_council, show_deed, show_log, show_row, show_wish
from packedseats.plans import follow
from packedseats.ranges import extremes
from packedseats.sources import strength

NO_ANSWER = "none"
NO_ENTRIES = "-"


def _back(book):
    return show_deed(book.back())


def _again(book):
    return show_deed(book.again())


def _rows(book):
    return _listed([f"{source} {show_row(row)}" for source, row in book.rows()])


def _councils(book):
    return _listed([f"{name} {show_council(council)}" for name, council in book.councils()])


def _wants(book):
    return _listed([f"{name} {show_wish(wish)}" for name, wish in book.wants()])


def _log(book):
    return show_log(book)


def _can(book, name):
    return "yes" if book.answer(name)[0] == "plan" else "no"


def _since(book, name):
    return str(book.since(name))


def _paper(book, name):
    kind, told = book.answer(name)
    return show_wish(told) if kind == "never" else NO_ANSWER


def _plan(book, name):
    kind, told = book.answer(name)
    if kind == "never":
        return NO_ANSWER
    _, end = follow([row for _, row in book.rows()], _councils_in(book), told)
    return show_row(end)


def _strength(book, name):
    number, _, sources = strength(book.rows(), _councils_in(book), _wish_in(book, name))
    return " ".join([str(number), *sources])


COMMANDS = {"back": _back, "again": _again, "rows": _rows, "councils": _councils, "wants": _wants, "log": _log}
QUERIES = {"can": _can, "since": _since, "paper": _paper, "plan": _plan, "strength": _strength}


def answered_by(book, line):
    """Return what the Book answers to the line, or raise NoCommand if the value is no such line."""
    if not isinstance(line, str):
        raise NoCommand()
    words = line.split(" ")
    if line in COMMANDS:
        command = COMMANDS[line]
        return command(book)
    if words[0] in QUERIES:
        query = QUERIES[words[0]]
        return query(book, _only_name(words[1:]))
    if words[0] == "range":
        return _range(book, words[1:])
    if words[0] == "insert":
        return _insert(book, words[1:])
    return _show_changes(book.do(_deed_in(book, line)))


def _range(book, words):
    """Return the least and the greatest entry of a column for a want."""
    name, column = _only_name(words[:1]), _natural_in(words[1:2])
    if len(words) != 2 or column >= book.width():
        raise NoCommand()
    found = extremes([row for _, row in book.rows()], _councils_in(book), _wish_in(book, name), column)
    if found is None:
        return NO_ANSWER
    return f"{found[0]} {found[1]}"


def _insert(book, words):
    """Insert a deed into the log, and return what came of it."""
    at, deed = _natural_in(words[:1]), _deed_in(book, " ".join(words[1:]))
    return _show_changes(book.insert(at, deed))


def _show_changes(told):
    gained, lost = told
    return " ".join(["gained", *gained, "lost", *lost])


def _listed(entries):
    return "; ".join(entries) or NO_ENTRIES


def _councils_in(book):
    return [council for _, council in book.councils()]


def _wish_in(book, name):
    """Return the wish of the want of this name."""
    wishes = [wish for other, wish in book.wants() if other == name]
    if not wishes:
        raise Unknown(name)
    return wishes[0]


def _only_name(words):
    """Return the only one of the words, if it is a name."""
    if len(words) != 1 or not is_name(words[0]):
        raise NoCommand()
    return words[0]


def _natural_in(words):
    """Return the integer that the only one of the words writes, if it is not negative."""
    try:
        numbers = [read_integer(word) for word in words]
    except NoText:
        raise NoCommand() from None
    if len(numbers) != 1 or numbers[0] < 0:
        raise NoCommand()
    return numbers[0]


def _deed_in(book, text):
    """Return the deed that the text writes."""
    try:
        return read_deed(text, book.width())
    except NoText:
        raise NoCommand() from None
