"""Notation: rows, wishes, councils, deeds and logs as texts, and what such texts write."""

from packedseats.books import book_of
from packedseats.councils import Council
from packedseats.deeds import ROW_WORDS, is_deed
from packedseats.errors import NoText, Wrong
from packedseats.kinds import is_row, is_wish

MOST_DIGITS = 40
NO_BOUNDS = "-"
SIGNS = (("least", ">="), ("most", "<="))


def show_row(row):
    """Return the text of a row."""
    return _show_integers(row)


def show_wish(wish):
    """Return the text of a wish."""
    return ",".join([_show_bound(bound) for bound in sorted(wish)]) or NO_BOUNDS


def show_council(council):
    """Return the text of a Council."""
    return f"{_show_integers(council.weights())}/{_show_integers(council.quotas())}"


def show_deed(deed):
    """Return the text of a deed."""
    return " ".join([*deed[:2], *[_show_part(deed[0], part) for part in deed[2:]]])


def show_log(book):
    """Return the text of the log of a Book."""
    return "".join([show_deed(deed) + "\n" for deed in book.log()])


def read_row(text, width):
    """Return the row that the text writes."""
    row = tuple(_read_integers(_string(text)))
    if not is_row(row, width):
        raise NoText()
    return row


def read_wish(text, width):
    """Return the wish that the text writes."""
    if _string(text) == NO_BOUNDS:
        return []
    wish = [_read_bound(part) for part in text.split(",")]
    if not is_wish(wish, width) or wish != sorted(wish):
        raise NoText()
    return wish


def read_council(text, width):
    """Return the Council that the text writes."""
    weights, _, quotas = _string(text).partition("/")
    try:
        council = Council(_read_integers(weights), _read_integers(quotas))
    except Wrong:
        raise NoText() from None
    if council.width() != width:
        raise NoText()
    return council


def read_deed(text, width):
    """Return the deed that the text writes."""
    words = _string(text).split(" ")
    deed = (*words[:2], *[_read_part(words[0], part, width) for part in words[2:]])
    if not is_deed(deed, width):
        raise NoText()
    return deed


def read_log(text, width):
    """Return the Book in which the deeds of the log that the text writes were done."""
    lines = _string(text).split("\n")
    deeds = [_deed_or_none(line, width) for line in lines[:-1]]
    if lines[-1] != "":
        # Each line of a log ends with a line feed, so this one is none, whatever it says.
        deeds.append(None)
    return book_of(width, deeds)


def read_integer(text):
    """Return the integer that the string writes."""
    digits = text[1:] if text.startswith("-") else text
    # Only the digits 0 to 9 count, and so few that Python reads them: there are other signs that it takes for digits.
    if not digits.isascii() or not digits.isdigit() or len(digits) > MOST_DIGITS:
        raise NoText()
    if str(int(text)) != text:
        raise NoText()
    return int(text)


def _show_integers(numbers):
    return ",".join([str(number) for number in numbers])


def _show_bound(bound):
    column, way, value = bound
    signs = [sign for other, sign in SIGNS if other == way]
    return f"{column}{signs[0]}{value}"


def _show_part(word, part):
    """Return the text of what stands behind the name in a deed with this word."""
    if word in ROW_WORDS:
        return show_row(part)
    if word == "found":
        return show_council(part)
    return show_wish(part)


def _string(text):
    """Return the text if it is a string."""
    if not isinstance(text, str):
        raise NoText()
    return text


def _read_integers(text):
    return [read_integer(part) for part in text.split(",")]


def _read_bound(text):
    for way, sign in SIGNS:
        column, found, value = text.partition(sign)
        if found:
            return (read_integer(column), way, read_integer(value))
    raise NoText()


def _read_part(word, text, width):
    """Return what the text writes that stands behind the name in a deed with this word."""
    if word in ROW_WORDS:
        return read_row(text, width)
    if word == "found":
        return read_council(text, width)
    return read_wish(text, width)


def _deed_or_none(line, width):
    try:
        return read_deed(line, width)
    except NoText:
        return None
