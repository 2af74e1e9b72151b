"""What the document says of the whole program: its interface, and [3] for all functions and classes together."""

import ast
import copy
import importlib
import inspect
import pathlib
import random
import unittest

from packedseats.books import Book
from packedseats.councils import Council
from packedseats.desk import Desk
from tests.plain import TWELVE_SIDES, some_council, some_row, some_wish
from tests.plain_books import outcome, some_deed
from tests.plain_texts import write_deed

FOLDER = pathlib.Path(__file__).resolve().parent.parent / "packedseats"

# The names of the interface with the names of their arguments; a class with its methods.
FUNCTIONS = {
    "kinds": {
        "is_integer": "thing", "is_value": "thing", "is_name": "thing", "is_row": "thing width",
        "is_side": "thing width", "is_bound": "thing width", "is_wish": "thing width",
    },
    "bounds": {
        "meets": "row wish", "missed": "row wish", "exactly": "row", "sides_of": "wish", "joined": "wish other",
        "mirrored": "wish",
    },
    "councils": {"difference": "one other"},
    "sessions": {"settle": "council rows", "weight_missing": "council rows bound", "origins": "council rows"},
    "packings": {
        "packing": "council sides", "is_packing": "council sides thing", "loads": "council sides",
        "are_loads": "council sides thing",
    },
    "lightness": {"is_light": "councils sides", "light_sets": "councils sides", "heavy_sets": "councils sides"},
    "plans": {"follow": "rows councils plan"},
    "wishes": {
        "decide": "rows councils wish", "is_possible": "rows councils wish", "is_paper": "rows councils wish thing",
    },
    "ranges": {"extremes": "rows councils wish column"},
    "listing": {
        "is_made": "rows councils row", "first_row": "rows councils wish", "row_after": "rows councils wish row",
        "all_rows": "rows councils wish *limit",
    },
    "clauses": {"clauses": "rows councils *limit"},
    "sources": {"strength": "shelf councils wish", "enough": "shelf councils wish"},
    "unsure": {"sure": "boxes councils wish"},
    "worlds": {
        "decide_all": "worlds councils", "is_world_paper": "worlds councils thing", "withstood": "rows councils wish",
    },
    "power": {
        "witness_rows": "width sides", "compare": "council councils", "same_power": "councils others",
        "fewest": "councils",
    },
    "charters": {"breach": "councils allowed", "barriers": "councils allowed"},
    "rounds": {"met_sets": "rows councils wish", "least_rounds": "rows councils wish"},
    "shelves": {"parted": "rows others councils", "core": "rows councils"},
    "notation": {
        "show_row": "row", "show_wish": "wish", "show_council": "council", "show_deed": "deed", "show_log": "book",
        "read_row": "text width", "read_wish": "text width", "read_council": "text width", "read_deed": "text width",
        "read_log": "text width",
    },
    "desk": {"answered": "width text line"},
}
CLASSES = {
    ("councils", "Council"): {
        "__init__": "weights quotas", "weights": "", "quotas": "", "total": "", "width": "", "allowance": "side",
        "mirrored": "", "part": "columns", "__eq__": "other", "__len__": "", "__repr__": "",
    },
    ("books", "Book"): {
        "__init__": "width", "do": "deed", "insert": "at deed", "back": "", "again": "", "width": "", "log": "",
        "rows": "", "councils": "", "wants": "", "answer": "name", "since": "name", "past": "count", "copied": "",
        "__eq__": "other", "__len__": "",
    },
    ("desk", "Desk"): {"__init__": "width", "execute": "line"},
}


def arguments_of(function):
    """Return the names of the arguments, those that are passed by keyword with a star."""
    names = []
    for parameter in inspect.signature(function).parameters.values():
        names.append(("*" if parameter.kind == parameter.KEYWORD_ONLY else "") + parameter.name)
    return names


def defined_in(name):
    """Return the functions and classes that a file defines, and the methods of each class."""
    tree = ast.parse((FOLDER / f"{name}.py").read_text(encoding="utf-8"))
    functions = [node.name for node in tree.body if isinstance(node, ast.FunctionDef)]
    classes = {node.name: [part.name for part in node.body if isinstance(part, ast.FunctionDef)]
               for node in tree.body if isinstance(node, ast.ClassDef)}
    return functions, classes


class InterfaceTest(unittest.TestCase):
    def test_functions(self):
        for module, functions in FUNCTIONS.items():
            here = importlib.import_module(f"packedseats.{module}")
            for name, arguments in functions.items():
                self.assertIn(name, defined_in(module)[0])
                self.assertEqual(arguments_of(getattr(here, name)), arguments.split(), name)

    def test_limits(self):
        for module, name in (("listing", "all_rows"), ("clauses", "clauses")):
            function = getattr(importlib.import_module(f"packedseats.{module}"), name)
            self.assertEqual(inspect.signature(function).parameters["limit"].default, 400)

    def test_classes(self):
        for (module, name), methods in CLASSES.items():
            here = getattr(importlib.import_module(f"packedseats.{module}"), name)
            self.assertLessEqual(set(methods), set(defined_in(module)[1][name]))
            for method, arguments in methods.items():
                self.assertEqual(arguments_of(getattr(here, method))[1:], arguments.split(), method)


def questions(chance):
    """Return tuples (name, function, arguments): calls of all functions that take rows, councils and wishes."""
    width = chance.randint(2, 3)
    rows = [some_row(chance, width, 0, 2) for _ in range(6)]
    other = [some_row(chance, width, 0, 2) for _ in range(6)]
    councils = [some_council(chance, width, chance.randint(2, 4)) for _ in range(3)]
    wish = some_wish(chance, width, 0, 2, 3)
    sides, shelf = TWELVE_SIDES[:2 * width], list(zip(["ann", "bob", "cyd"] * 2, rows))
    boxes = [tuple((min(pair), max(pair)) for pair in zip(one, two)) for one, two in zip(rows, other)]
    worlds, allowed = [(rows, wish), (other, wish[:2])], sorted(set(rows))
    asked = {
        "bounds": {"missed": (rows[0], wish), "joined": (wish, wish[::-1]), "mirrored": (wish,)},
        "sessions": {"settle": (councils[0], rows[:len(councils[0])]), "origins": (councils[0], rows[:len(councils[0])])},
        "packings": {"packing": (councils[0], sides), "loads": (councils[0], sides[:2])},
        "lightness": {"light_sets": (councils, sides), "heavy_sets": (councils, sides)},
        "wishes": {"decide": (rows, councils, wish), "is_possible": (rows, councils, wish)},
        "ranges": {"extremes": (rows, councils, wish[:1], 0)},
        "listing": {"all_rows": (rows, councils, []), "first_row": (rows, councils, wish)},
        "clauses": {"clauses": (rows, councils)},
        "sources": {"strength": (shelf, councils, wish), "enough": (shelf, councils, wish)},
        "unsure": {"sure": (boxes, councils, wish)},
        "worlds": {"decide_all": (worlds, councils), "withstood": (rows, councils, wish)},
        "power": {
            "witness_rows": (width, sides), "compare": (councils[0], councils[1:]),
            "same_power": (councils[:1], councils[1:]), "fewest": (councils,),
        },
        "charters": {"breach": (councils, allowed), "barriers": (councils, allowed)},
        "rounds": {"met_sets": (rows, councils, wish), "least_rounds": (rows, councils, wish)},
        "shelves": {"parted": (rows, other, councils), "core": (rows, councils)},
        "notation": {"show_wish": (wish,), "show_council": (councils[0],), "read_wish": ("0>=1,1>=1", width)},
        "desk": {"answered": (width, "want big 0>=1\n", "paper big")},
    }
    return [(f"{module}.{name}", getattr(importlib.import_module(f"packedseats.{module}"), name), arguments)
            for module, functions in asked.items() for name, arguments in functions.items()]


def spoil(thing):
    """Empty all lists of a result."""
    if isinstance(thing, (list, tuple)):
        for part in thing:
            spoil(part)
    if isinstance(thing, list):
        thing.clear()


def lists_in(thing):
    """Return the lists that a result holds, itself included, each as often as it stands there."""
    if not isinstance(thing, (list, tuple)):
        return []
    return ([thing] if isinstance(thing, list) else []) + [one for part in thing for one in lists_in(part)]


class WholeTest(unittest.TestCase):
    def test_any_order_of_calls_gives_the_same(self):
        chance = random.Random(300)
        for _ in range(15):
            asked = questions(chance)
            shown = repr([arguments for _, _, arguments in asked])
            first = {name: copy.deepcopy(outcome(function, *arguments)) for name, function, arguments in asked}
            for _ in range(3):
                for name, function, arguments in chance.sample(asked, len(asked)):
                    found = outcome(function, *arguments)
                    self.assertEqual(found, first[name], name)
                    spoil(found[1])
            self.assertEqual(repr([arguments for _, _, arguments in asked]), shown)

    def test_no_list_stands_at_two_places_or_is_one_that_was_passed(self):
        chance = random.Random(301)
        for _ in range(15):
            for name, function, arguments in questions(chance):
                lists = [id(one) for one in lists_in(outcome(function, *arguments)[1])]
                self.assertEqual(len(lists), len(set(lists)), name)
                self.assertFalse(set(lists) & {id(one) for one in lists_in(arguments)}, name)

    def test_books_and_desks_beside_each_other(self):
        chance = random.Random(302)
        runs = [[some_deed(chance, 2, []) for _ in range(40)] for _ in range(2)]
        alone = []
        for deeds in runs:
            book, desk = Book(2), Desk(2)
            alone.append([(outcome(book.do, deed), outcome(desk.execute, write_deed(deed))) for deed in deeds])
        books, desks, turns = [Book(2), Book(2)], [Desk(2), Desk(2)], [[], []]
        for deeds in zip(*runs):
            for at, deed in enumerate(deeds):
                turns[at].append((outcome(books[at].do, deed), outcome(desks[at].execute, write_deed(deed))))
                books[at].copied().do(("want", "other", []))
        self.assertEqual(turns, alone)

    def test_a_council_stays_as_it_is(self):
        chance = random.Random(303)
        council, book = Council([3, 2, 1], [2, 4]), Book(2)
        shown = repr(council)
        book.do(("found", "max", council))
        for _ in range(30):
            outcome(book.do, some_deed(chance, 2, book.log()))
        for _, found in book.councils():
            spoil([found.weights(), found.quotas()])
        self.assertEqual([repr(council), council.weights(), council.quotas()], [shown, [3, 2, 1], [2, 4]])
        self.assertEqual(book.log()[0], ("found", "max", council))

    def test_lists_of_a_book_are_new_each_time(self):
        book = Book(2)
        for deed in (("want", "big", [(0, "least", 1)]), ("tell", "ann", (1, 1)), ("found", "max", Council([1, 1], [1, 2]))):
            book.do(deed)
        calls = (book.log, book.rows, book.councils, book.wants, lambda: book.answer("big"), book.log, book.wants)
        results = [call() for call in calls]
        lists = [id(one) for one in lists_in(results)]
        self.assertEqual(len(lists), len(set(lists)))


if __name__ == "__main__":
    unittest.main()
