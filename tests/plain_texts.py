"""Texts for the tests: what [102] says, by regular expressions and by hand."""

import re

from packedseats.councils import Council

NUMBER = r"(?:0|-?[1-9][0-9]*)"
LIST = rf"{NUMBER}(?:,{NUMBER})*"
BOUND = rf"{NUMBER}(?:>=|<=){NUMBER}"
NAME = r"[a-z]{1,8}"


def numbers_of(text):
    """Return the integers of a text, or None if it is none, or if one of them is far out of every range."""
    if not re.fullmatch(LIST, text) or any(len(part) > 30 for part in text.split(",")):
        return None
    return [int(part) for part in text.split(",")]


def plain_row(text, width):
    numbers = numbers_of(text)
    if numbers is None or len(numbers) != width or not all(abs(number) <= 10 ** 18 for number in numbers):
        return None
    return tuple(numbers)


def plain_wish(text, width):
    if text == "-":
        return []
    wish = []
    for part in text.split(","):
        if not re.fullmatch(BOUND, part):
            return None
        column, sign, value = re.split("(>=|<=)", part)
        if len(column) > 2 or not 0 <= int(column) < width or len(value) > 30 or abs(int(value)) > 10 ** 18:
            return None
        wish.append((int(column), {">=": "least", "<=": "most"}[sign], int(value)))
    sides = [bound[:2] for bound in wish]
    if sorted(set(sides)) != sides:
        return None
    return wish


def plain_council(text, width):
    if text.count("/") != 1:
        return None
    weights, quotas = map(numbers_of, text.split("/"))
    if weights is None or quotas is None or not 2 <= len(weights) <= 7 or len(quotas) != width:
        return None
    if not all(1 <= weight <= 10 ** 6 for weight in weights) or not all(1 <= some <= sum(weights) for some in quotas):
        return None
    return Council(weights, quotas)


def plain_deed(text, width):
    words = text.split(" ")
    if len(words) not in (2, 3) or not re.fullmatch(NAME, words[1]):
        return None
    if len(words) == 2:
        return tuple(words) if words[0] in ("close", "drop") else None
    readers = {"tell": plain_row, "withdraw": plain_row, "found": plain_council, "want": plain_wish}
    if words[0] not in readers:
        return None
    part = readers[words[0]](words[2], width)
    return None if part is None else (*words[:2], part)


def write_row(row):
    return ",".join("%d" % entry for entry in row)


def write_wish(wish):
    if not wish:
        return "-"
    return ",".join("%d%s%d" % (column, {"least": ">=",
    "most": "<="}[way], value) for column, way, value in sorted(wish))


def write_council(council):
    return write_row(council.weights()) + "/" + write_row(council.quotas())


def write_deed(deed):
    words = list(deed[:2])
    for part in deed[2:]:
        writer = {tuple: write_row, list: write_wish, Council: write_council}[type(part)]
        words.append(writer(part))
    return " ".join(words)


def spoiled(chance, text):
    """Return a text that comes of this one by a small change."""
    at = chance.randint(0, len(text))
    signs = ["0", "1", "9", "-", ",", ">=", "<=", "/", " ", "\n", "+", "a", "A", ".", ">", "=", "_", "\u0661", "\xb2"]
    kind = chance.choice(["insert", "leave out", "exchange", "twice", "swap"])
    if kind == "insert" or not text:
        return text[:at] + chance.choice(signs) + text[at:]
    if kind == "leave out":
        return text[:at] + text[at + 1:]
    if kind == "exchange":
        return text[:at] + chance.choice(signs) + text[at + 1:]
    mark = chance.choice([",", " ", "/"])
    parts = text.split(mark)
    if kind == "twice":
        parts.insert(chance.randrange(len(parts)), chance.choice(parts))
    else:
        chance.shuffle(parts)
    return mark.join(parts)
