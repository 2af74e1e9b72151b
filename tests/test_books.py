"""Promises [100] and [101], and what [3], [4] and [12] say of books."""

import copy
import random
import time
import unittest

from packedseats.books import Book
from packedseats.councils import Council
from packedseats.errors import CouncilError
from packedseats.wishes import decide, is_possible
from tests.plain import GREAT, TWELVE_SIDES, check_examples, odd_values, some_council, some_row
from tests.plain_books import COUNCILS, SOURCES, WANTS, PlainBook, not_deeds, outcome, some_deed

MOST, LEAST = Council([1, 1], [2, 2]), Council([1, 1], [1, 1])
HIGH = [(0, "least", 1), (1, "least", 1)]
FORTY_ROWS = [(at, at) for at in range(40)]


def book_with(*deeds, width=2):
    book = Book(width)
    for deed in deeds:
        book.do(deed)
    return book


def full_book():
    """Return a Book with a hundred deeds, of which the last one told (0, 0), and which has nothing else."""
    book = Book(2)
    for _ in range(49):
        book.do(("want", "big", []))
        book.do(("drop", "big"))
    book.do(("found", "max", MOST))
    book.do(("tell", "ann", (0, 0)))
    return book


class BooksCase(unittest.TestCase):
    def check_raises(self, name, fields, function, *arguments):
        self.assertEqual(outcome(function, *arguments), ("raised", name, fields))

    def check_same(self, book, plain):
        """Check what a Book says of itself."""
        told, councils, wants = plain.state()
        self.assertEqual(book.width(), plain.width)
        self.assertEqual(book.log(), plain.deeds)
        self.assertEqual(book.rows(), told)
        self.assertEqual(book.councils(), sorted(councils.items()))
        self.assertEqual(book.wants(), sorted(wants.items()))
        self.assertEqual(len(book), len(plain.deeds))

    def check_unchanged(self, book, function, *arguments):
        """Call what raises an error, and check that the Book is as before, with what it would do again."""
        before = copy.deepcopy(self.all_of(book))
        found = outcome(function, *arguments)
        self.assertEqual(found[0], "raised", arguments)
        self.assertEqual(self.all_of(book), before)
        return found[1:]

    def all_of(self, book):
        """Return all that a Book says, also of what it can do again."""
        answers = [(book.answer(name), book.since(name)) for name, _ in book.wants()]
        other, undone = book.copied(), []
        while (found := outcome(other.again))[0] == "returned":
            undone.append(found[1])
        return [book.width(), book.log(), book.rows(), book.councils(), book.wants(), len(book), answers, undone]


class PlainTest(BooksCase):
    def test_example(self):
        check_examples(self, """
>>> from packedseats.councils import Council
>>> from packedseats.books import Book
>>> book = Book(2)
>>> book.do(('tell', 'ann', (2, 0)))
>>> book.do(('tell', 'bob', (0, 2)))
>>> book.do(('want', 'big', [(0, 'least', 1), (1, 'least', 1)]))
>>> [book.do(('found', 'max', Council([1, 1], [2, 2]))), book.since('big'), book.insert(0, ('want', 'big', []))]
raises Broken(3)
""")

    def test_example_step_by_step(self):
        book = Book(2)
        for deed in (("tell", "ann", (2, 0)), ("tell", "bob", (0, 2)), ("want", "big", HIGH)):
            self.assertEqual(book.do(deed), ([], []))
        self.assertEqual(book.do(("found", "max", MOST)), (["big"], []))
        self.assertEqual(book.since("big"), 4)
        self.assertEqual(book.do(("withdraw", "ann", (2, 0))), ([], ["big"]))
        self.assertEqual([book.since("big"), book.answer("big")], [5, ("never", HIGH[:1])])

    def test_widths(self):
        for width in range(1, 7):
            book = Book(width)
            self.assertEqual([book.width(), len(book), book.log(), book.rows()], [width, 0, [], []])
            self.assertEqual([book.councils(), book.wants()], [[], []])
        wrong = [0, 7, -1, 10 ** 39, -10 ** 39, True, False, None, "2", "", b"2", [2], (2,), {2}, {2: 2}, [], 2j, Book]
        for thing in [*wrong, *odd_values()]:
            self.check_raises("Wrong", [0], Book, thing)

    def test_runs_against_the_plain_book(self):
        chance = random.Random(270)
        raised, changed = {}, [0, 0]
        for _ in range(100):
            width = chance.randint(1, 3)
            book, plain = Book(width), PlainBook(width)
            for _ in range(40):
                found = self.step(chance, book, plain)
                if found[0] == "raised":
                    raised[found[1]] = raised.get(found[1], 0) + 1
                elif isinstance(found[1], tuple) and isinstance(found[1][0], list):
                    changed = [many + len(names) for many, names in zip(changed, found[1])]
                self.check_same(book, plain)
                if chance.random() < 0.1:
                    book, plain = book.copied(), plain.copied()
            self.check_queries(book, plain)
        self.assertGreater(min(changed), 30)
        for name in ("NoDeed", "Told", "NotTold", "Taken", "Unknown", "Broken", "Nothing", "Wrong"):
            self.assertGreater(raised.get(name, 0), 5, name)

    def step(self, chance, book, plain):
        """Do the same to both books, and check that the same comes of it."""
        kind = chance.choice(["do"] * 12 + ["back"] * 2 + ["again"] * 2 + ["insert"] * 4)
        deed = some_deed(chance, plain.width, plain.deeds)
        shown = deed if chance.random() < 0.95 else chance.choice(not_deeds(plain.width))
        deed = deed if shown is deed else None
        if kind == "do":
            found, expected = outcome(book.do, shown), outcome(plain.do, deed)
        elif kind == "insert":
            at = chance.randint(-1, len(plain.deeds) + 1) if chance.random() < 0.9 else "0"
            found, expected = outcome(book.insert, at, shown), outcome(plain.insert, at, deed)
        else:
            found = outcome(book.back if kind == "back" else book.again)
            expected = outcome(plain.back if kind == "back" else plain.again)
        self.assertEqual(found, expected)
        return found

    def check_queries(self, book, plain):
        for name in WANTS:
            self.assertEqual(outcome(book.answer, name), outcome(plain.answer, name))
            self.assertEqual(outcome(book.since, name), outcome(plain.since, name))
        for count in range(len(plain.deeds) + 1):
            self.check_same(book.past(count), plain.past(count))
            for name in WANTS[:2]:
                self.assertEqual(outcome(book.past(count).since, name), outcome(plain.past(count).since, name))


class DeedsTest(BooksCase):
    def test_no_deeds(self):
        for width in (1, 2, 6):
            book = Book(width)
            row, council = (0,) * width, Council([1, 1], [1] * width)
            for deed in (("tell", "ann", row), ("found", "max", council), ("want", "big", [])):
                book.do(deed)
            before = self.all_of(book)
            for thing in [*not_deeds(width), *odd_values()]:
                self.check_raises("NoDeed", [], book.do, thing)
                self.check_raises("Broken", [3], book.insert, 3, thing)
                self.check_raises("Broken", [1], book.insert, 1, thing)
            self.assertEqual(self.all_of(book), before)

    def test_things_that_are_no_deed_are_not_changed(self):
        book = Book(2)
        for thing in not_deeds(2):
            kept = copy.deepcopy(thing) if "Council" not in repr(thing) else thing
            outcome(book.do, thing)
            outcome(book.insert, 0, thing)
            self.assertEqual(thing, kept)

    def test_edges_of_deeds(self):
        book = Book(2)
        for name in ("a", "z", "abcdefgh", "zzzzzzzz"):
            for row in ((GREAT, -GREAT), (0, 0)):
                self.assertEqual(book.do(("tell", name, row)), ([], []))
            self.assertEqual(book.do(("found", name, MOST)), ([], []))
            self.assertEqual(book.do(("want", name, [(1, "most", GREAT), (0, "least", -GREAT)])), ([], []))
        self.assertEqual(len(book), 16)

    def test_names_that_are_words(self):
        book, deeds = Book(2), []
        for name in ("tell", "withdraw", "found", "close", "want"):
            deeds += [("tell", name, (1, 2)), ("found", name, MOST), ("want", name, HIGH[::-1])]
        for deed in deeds:
            book.do(deed)
        self.assertEqual(book.log(), [(*deed[:2], HIGH if deed[0] == "want" else deed[2]) for deed in deeds])
        for name in ("tell", "withdraw", "found", "close", "want"):
            for deed in (("withdraw", name, (1, 2)), ("close", name), ("drop", name)):
                book.do(deed)
                self.assertEqual(book.log()[-1], deed)
        self.assertEqual([book.rows(), book.councils(), book.wants()], [[], [], []])

    def test_tell_and_withdraw(self):
        book = book_with(("tell", "ann", (0, 0)), ("tell", "bob", (0, 0)), ("tell", "ann", (0, 1)))
        self.assertEqual(self.check_unchanged(book, book.do, ("tell", "ann", (0, 0))), ("Told", ["ann"]))
        self.assertEqual(self.check_unchanged(book, book.do, ("withdraw", "bob", (0, 1))), ("NotTold", ["bob"]))
        self.assertEqual(self.check_unchanged(book, book.do, ("withdraw", "cyd", (0, 0))), ("NotTold", ["cyd"]))
        book.do(("withdraw", "ann", (0, 0)))
        self.assertEqual(self.check_unchanged(book, book.do, ("withdraw", "ann", (0, 0))), ("NotTold", ["ann"]))
        self.assertEqual(book.rows(), [("bob", (0, 0)), ("ann", (0, 1))])
        book.do(("tell", "ann", (0, 0)))
        # What is told again stands where it was told last.
        self.assertEqual(book.rows(), [("bob", (0, 0)), ("ann", (0, 1)), ("ann", (0, 0))])

    def test_forty_rows(self):
        book = Book(2)
        for at, row in enumerate(FORTY_ROWS):
            self.assertEqual(len(book.rows()), at)
            book.do(("tell", "ann", row))
        self.assertEqual(self.check_unchanged(book, book.do, ("tell", "ann", (40, 40))), ("TooMany", [40]))
        self.assertEqual(self.check_unchanged(book, book.do, ("tell", "bob", (0, 0))), ("TooMany", [40]))
        self.assertEqual(self.check_unchanged(book, book.do, ("tell", "ann", (0, 0))), ("Told", ["ann"]))
        self.assertEqual(self.check_unchanged(book, book.insert, 40, ("tell", "bob", (0, 0))), ("Broken", [40]))
        self.assertEqual(self.check_unchanged(book, book.insert, 0, ("tell", "bob", (0, 0))), ("Broken", [40]))
        book.do(("withdraw", "ann", (7, 7)))
        book.do(("tell", "bob", (0, 0)))
        self.assertEqual(len(book.rows()), 40)
        self.assertEqual(self.check_unchanged(book, book.do, ("tell", "ann", (7, 7))), ("TooMany", [40]))

    def test_five_councils(self):
        book = Book(2)
        for at, name in enumerate(COUNCILS[:5]):
            self.assertEqual(len(book.councils()), at)
            self.assertEqual(self.check_unchanged(book, book.do, ("close", name)), ("Unknown", [name]))
            book.do(("found", name, MOST))
            self.assertEqual(self.check_unchanged(book, book.do, ("found", name, LEAST)), ("Taken", [name]))
        self.assertEqual(self.check_unchanged(book, book.do, ("found", "zeta", MOST)), ("TooMany", [5]))
        self.assertEqual(self.check_unchanged(book, book.do, ("found", "beta", MOST)), ("Taken", ["beta"]))
        self.assertEqual(self.check_unchanged(book, book.insert, 5, ("found", "beta", MOST)), ("Broken", [5]))
        book.do(("close", "beta"))
        book.do(("found", "zeta", LEAST))
        self.assertEqual(book.councils(), [("alpha", MOST), ("delta", MOST), ("eps", MOST), ("gamma", MOST),
                                           ("zeta", LEAST)])
        self.assertEqual(self.check_unchanged(book, book.do, ("found", "beta", MOST)), ("TooMany", [5]))
        self.assertEqual(self.check_unchanged(book, book.do, ("close", "beta")), ("Unknown", ["beta"]))

    def test_eight_wants(self):
        book = Book(2)
        for at, name in enumerate(WANTS[:8]):
            self.assertEqual(len(book.wants()), at)
            self.assertEqual(self.check_unchanged(book, book.do, ("drop", name)), ("Unknown", [name]))
            book.do(("want", name, HIGH[::-1]))
            self.assertEqual(self.check_unchanged(book, book.do, ("want", name, HIGH)), ("Taken", [name]))
        self.assertEqual(self.check_unchanged(book, book.do, ("want", WANTS[8], [])), ("TooMany", [8]))
        self.assertEqual(self.check_unchanged(book, book.do, ("want", "big", [])), ("Taken", ["big"]))
        book.do(("drop", "low"))
        book.do(("want", WANTS[8], []))
        self.assertEqual(book.wants(), [(name, HIGH) for name in WANTS[:8] if name != "low"] + [(WANTS[8], [])])
        self.assertEqual(self.check_unchanged(book, book.do, ("want", "low", [])), ("TooMany", [8]))

    def test_one_name_for_a_source_a_council_and_a_want(self):
        book = book_with(("tell", "ann", (1, 1)), ("found", "ann", MOST), ("want", "ann", HIGH))
        self.assertEqual([book.rows(), book.councils(), book.wants()],
                         [[("ann", (1, 1))], [("ann", MOST)], [("ann", HIGH)]])
        self.assertEqual(book.do(("close", "ann")), ([], []))
        self.assertEqual(book.do(("drop", "ann")), ([], []))
        self.assertEqual([book.rows(), book.councils(), book.wants()], [[("ann", (1, 1))], [], []])

    def test_a_hundred_deeds(self):
        book = full_book()
        self.assertEqual(len(book), 100)
        for deed in (("tell", "ann", (0, 0)), ("tell", "bob", (0, 0)), ("withdraw", "bob", (0, 0)), ("drop", "big"),
                     ("found", "max", MOST), ("want", "far", [])):
            self.assertEqual(self.check_unchanged(book, book.do, deed), ("TooMany", [100]))
            self.assertEqual(self.check_unchanged(book, book.insert, 50, deed), ("TooMany", [100]))
        for thing in not_deeds(2):
            self.check_raises("NoDeed", [], book.do, thing)
            self.check_raises("TooMany", [100], book.insert, 100, thing)
            self.check_raises("Wrong", [0], book.insert, 101, thing)
        self.check_raises("Wrong", [0], book.insert, -1, ("drop", "big"))
        self.check_raises("Wrong", [0], book.insert, "0", None)
        self.assertEqual(book.back(), ("tell", "ann", (0, 0)))
        self.assertEqual(len(book), 99)
        self.assertEqual(self.check_unchanged(book, book.do, ("drop", "big")), ("Unknown", ["big"]))
        self.assertEqual(self.check_unchanged(book, book.insert, 99, ("drop", "big")), ("Broken", [99]))
        self.assertEqual(book.again(), ("tell", "ann", (0, 0)))
        self.check_raises("TooMany", [100], book.do, ("drop", "big"))
        book.back()
        self.assertEqual(book.insert(99, ("want", "big", [])), ([], []))
        self.assertEqual(len(book), 100)
        self.check_raises("Nothing", [], book.again)


class GainedTest(BooksCase):
    def test_gained_and_lost_against_the_lists_before_and_after(self):
        chance = random.Random(271)
        totals = [0, 0]
        for _ in range(40):
            width = chance.randint(1, 6)
            book = Book(width)
            for _ in range(50):
                deed = some_deed(chance, width, book.log())
                before = self.outlooks(book)
                found = outcome(book.do, deed)
                if found[0] == "raised":
                    continue
                after = self.outlooks(book)
                same = [name for name in sorted(after) if name in before and before[name][0] == after[name][0]]
                expected = tuple([name for name in same if (before[name][1], after[name][1]) == pair]
                                 for pair in ((False, True), (True, False)))
                self.assertEqual(found[1], expected)
                self.assertEqual([type(found[1]), *map(type, found[1])], [tuple, list, list])
                totals = [total + len(names) for total, names in zip(totals, expected)]
        self.assertGreater(min(totals), 30)

    def outlooks(self, book):
        rows, councils = [row for _, row in book.rows()], [council for _, council in book.councils()]
        return {name: (wish, is_possible(rows, councils, wish)) for name, wish in book.wants()}

    def test_several_names_in_order(self):
        book = Book(2)
        for name in ("zoo", "abc", "mid"):
            book.do(("want", name, HIGH))
        book.do(("want", "never", [(0, "least", 9)]))
        self.assertEqual(book.do(("tell", "ann", (1, 1))), (["abc", "mid", "zoo"], []))
        self.assertEqual(book.do(("tell", "bob", (1, 1))), ([], []))
        self.assertEqual(book.do(("withdraw", "ann", (1, 1))), ([], []))
        self.assertEqual(book.do(("withdraw", "bob", (1, 1))), ([], ["abc", "mid", "zoo"]))

    def test_a_new_want_and_one_that_goes_count_for_nothing(self):
        book = book_with(("tell", "ann", (1, 1)))
        self.assertEqual(book.do(("want", "big", HIGH)), ([], []))
        self.assertEqual(book.do(("drop", "big")), ([], []))
        self.assertEqual(book.do(("want", "far", [(0, "least", 5)])), ([], []))
        self.assertEqual(book.do(("drop", "far")), ([], []))

    def test_insertions_that_change_what_is_wanted(self):
        book = book_with(("tell", "ann", (5, 5)), ("want", "big", HIGH), ("want", "far", HIGH),
                         ("withdraw", "ann", (5, 5)))
        self.assertEqual(book.insert(0, ("tell", "bob", (5, 5))), (["big", "far"], []))
        # A want that is dropped by what is inserted, and one that is wanted only then, count for nothing.
        book = book_with(("tell", "ann", (1, 0)), ("want", "big", HIGH[:1]))
        self.assertEqual(book.insert(2, ("drop", "big")), ([], []))
        self.assertEqual(book.insert(3, ("want", "big", HIGH)), ([], []))
        self.assertEqual(book.insert(1, ("tell", "bob", (3, 3))), (["big"], []))

    def test_the_same_name_with_another_wish(self):
        # A withdrawal and a want with another wish of the same name: only a wish that stays the same counts.
        book = book_with(("tell", "ann", (1, 0)), ("want", "big", HIGH[:1]), ("want", "far", HIGH[:1]))
        book.do(("drop", "big"))
        self.assertEqual(book.do(("want", "big", HIGH)), ([], []))
        self.assertEqual(book.do(("withdraw", "ann", (1, 0))), ([], ["far"]))
        self.assertEqual(book.do(("tell", "ann", (1, 1))), (["big", "far"], []))

    def test_gained_and_lost_by_councils(self):
        book = book_with(("tell", "ann", (1, 0)), ("tell", "bob", (0, 1)), ("want", "big", HIGH),
                         ("want", "low", [(0, "most", 0), (1, "most", 0)]))
        self.assertEqual(book.do(("found", "max", MOST)), (["big"], []))
        self.assertEqual(book.do(("found", "min", LEAST)), (["low"], []))
        self.assertEqual(book.do(("close", "max")), ([], ["big"]))
        self.assertEqual(book.insert(0, ("found", "top", MOST)), (["big"], []))
        self.assertEqual(book.insert(7, ("withdraw", "ann", (1, 0))), ([], ["big", "low"]))


class BackTest(BooksCase):
    def test_nothing(self):
        book = Book(2)
        for _ in range(2):
            self.check_raises("Nothing", [], book.back)
            self.check_raises("Nothing", [], book.again)
        book.do(("want", "big", HIGH))
        self.check_raises("Nothing", [], book.again)
        book.back()
        self.check_raises("Nothing", [], book.back)
        self.assertEqual(book.again(), ("want", "big", HIGH))
        self.check_raises("Nothing", [], book.again)

    def test_all_back_and_all_again(self):
        chance = random.Random(272)
        for _ in range(20):
            book, plain = Book(2), PlainBook(2)
            while len(book) < 30:
                deed = some_deed(chance, 2, plain.deeds)
                self.assertEqual(outcome(book.do, deed), outcome(plain.do, deed))
            log = book.log()
            for many in (30, 7, 1):
                self.assertEqual([book.back() for _ in range(many)], log[::-1][:many])
                self.assertEqual(book.log(), log[:30 - many])
                self.assertEqual(book, book.past(30 - many))
                self.assertEqual([book.again() for _ in range(many)], log[30 - many:])
                self.assertEqual(book.log(), log)
            self.check_same(book, plain)

    def test_gone_behind_a_deed_even_an_equal_one(self):
        for deed in (("tell", "bob", (2, 2)), ("tell", "cyd", (1, 1))):
            book = book_with(("tell", "ann", (1, 1)), ("tell", "bob", (2, 2)), ("want", "big", []))
            book.back()
            book.back()
            book.do(deed)
            self.check_raises("Nothing", [], book.again)
            self.assertEqual(len(book), 2)

    def test_gone_behind_an_insertion(self):
        for at in (0, 1):
            book = book_with(("tell", "ann", (1, 1)), ("tell", "bob", (2, 2)))
            book.back()
            book.insert(at, ("tell", "bob", (2, 2)))
            self.check_raises("Nothing", [], book.again)

    def test_kept_behind_refused_deeds_and_queries(self):
        book = book_with(("tell", "ann", (1, 1)), ("want", "big", HIGH), ("tell", "bob", (2, 2)), ("want", "far", []))
        book.back()
        book.back()
        for function, *arguments in (
            (book.do, ("tell", "ann", (1, 1))), (book.do, ("drop", "far")), (book.do, None), (book.insert, 9, None),
            (book.insert, 0, ("want", "big", [])), (book.insert, 0, None), (book.past, 3), (book.answer, "far"),
            (book.since, "far"), (book.do, ("tell", "ann", [1, 1])), (book.insert, True, ("tell", "bob", (2, 2))),
        ):
            self.assertEqual(outcome(function, *arguments)[0], "raised")
        self.all_of(book)
        book.past(1).do(("tell", "you", (0, 0)))
        book.copied().do(("tell", "you", (0, 0)))
        self.assertEqual([book.again(), book.again()], [("tell", "bob", (2, 2)), ("want", "far", [])])
        self.check_raises("Nothing", [], book.again)

    def test_kept_deeds_are_done_one_after_another(self):
        book = book_with(*[("tell", "ann", (at, 0)) for at in range(6)])
        for _ in range(4):
            book.back()
        self.assertEqual(book.again(), ("tell", "ann", (2, 0)))
        self.assertEqual(book.back(), ("tell", "ann", (2, 0)))
        self.assertEqual(book.again(), ("tell", "ann", (2, 0)))
        self.assertEqual(book.again(), ("tell", "ann", (3, 0)))
        self.assertEqual([row for _, row in book.rows()], [(at, 0) for at in range(4)])


class InsertTest(BooksCase):
    def test_places(self):
        log = [("tell", "ann", (1, 0)), ("found", "max", MOST), ("want", "big", HIGH)]
        for at in range(4):
            book = book_with(*log)
            self.assertEqual(book.insert(at, ("tell", "bob", (0, 1))), (["big"], []))
            self.assertEqual(book.log(), log[:at] + [("tell", "bob", (0, 1))] + log[at:])
            for wrong in (-1, 5, 10 ** 39, True, False, None, "0", [0], (0,), b"0", {}, -10 ** 39):
                for deed in (("tell", "cyd", (0, 1)), None, ("drop", "you")):
                    self.assertEqual(self.check_unchanged(book, book.insert, wrong, deed), ("Wrong", [0]))
        for thing in odd_values():
            self.check_raises("Wrong", [0], Book(2).insert, thing, thing)
        self.assertEqual(Book(2).insert(0, ("want", "big", HIGH)), ([], []))

    def test_order_of_rows(self):
        book = book_with(("tell", "ann", (1, 0)), ("tell", "bob", (2, 0)))
        book.insert(1, ("tell", "cyd", (3, 0)))
        self.assertEqual([source for source, _ in book.rows()], ["ann", "cyd", "bob"])
        book.insert(2, ("withdraw", "ann", (1, 0)))
        book.insert(3, ("tell", "ann", (1, 0)))
        self.assertEqual([source for source, _ in book.rows()], ["cyd", "ann", "bob"])

    def test_broken_at_the_first_deed_that_cannot_be_done(self):
        log = [("tell", "ann", (1, 0)), ("withdraw", "ann", (1, 0)), ("want", "big", HIGH), ("drop", "big"),
               ("found", "max", MOST), ("close", "max"), ("tell", "ann", (1, 0))]
        book = book_with(*log)
        for at, deed, index in (
            (0, ("tell", "ann", (1, 0)), 1), (1, ("tell", "ann", (1, 0)), 1), (1, ("withdraw", "ann", (1, 0)), 2),
            (2, ("tell", "ann", (1, 0)), 7), (0, ("withdraw", "ann", (1, 0)), 0), (7, ("tell", "ann", (1, 0)), 7),
            (0, ("want", "big", []), 3), (3, ("want", "big", []), 3), (3, ("drop", "big"), 4), (4, ("drop", "big"), 4),
            (4, ("want", "big", []), None), (4, ("found", "max", LEAST), 5), (0, ("found", "max", LEAST), 5),
            (5, ("close", "max"), 6), (7, ("close", "max"), 7), (3, ("tell", "ann", [1, 0]), 3), (7, None, 7),
            (6, ("found", "max", LEAST), None), (0, "drop big", 0),
        ):
            if index is None:
                self.assertEqual(book.copied().insert(at, deed), ([], []))
            else:
                self.assertEqual(self.check_unchanged(book, book.insert, at, deed), ("Broken", [index]))

    def test_each_place_against_a_new_book(self):
        chance = random.Random(273)
        many = [0, 0]
        for _ in range(15):
            book = Book(2)
            while len(book) < 12:
                outcome(book.do, some_deed(chance, 2, book.log()))
            for at in range(13):
                deed, other = some_deed(chance, 2, book.log()), book.copied()
                found = outcome(other.insert, at, deed)
                longer = [*book.log()[:at], deed, *book.log()[at:]]
                fresh, results = Book(2), []
                for part in longer:
                    results.append(outcome(fresh.do, part)[0])
                if "raised" in results:
                    self.assertEqual(found, ("raised", "Broken", [results.index("raised")]))
                    self.assertEqual(other, book)
                else:
                    self.assertEqual(other, fresh)
                    self.assertEqual(self.all_of(other), self.all_of(fresh))
                many["raised" in results] += 1
        self.assertGreater(min(many), 30)


class QueriesTest(BooksCase):
    def test_answer_as_decide(self):
        chance = random.Random(274)
        kinds = {"plan": 0, "never": 0}
        for _ in range(60):
            width = chance.randint(1, 6)
            book = Book(width)
            for _ in range(40):
                outcome(book.do, some_deed(chance, width, book.log()))
            rows, councils = [row for _, row in book.rows()], [council for _, council in book.councils()]
            self.assertEqual([name for name, _ in book.councils()], sorted(name for name, _ in book.councils()))
            for name, wish in book.wants():
                self.assertEqual(book.answer(name), decide(rows, councils, wish))
                kinds[book.answer(name)[0]] += 1
        self.assertGreater(min(kinds.values()), 20)

    def test_councils_count_in_the_order_of_their_names(self):
        book = book_with(("found", "zeta", MOST), ("found", "alpha", LEAST), ("tell", "ann", (1, 0)),
                         ("tell", "bob", (0, 1)), ("want", "big", HIGH),
                         ("want", "low", [(0, "most", 0), (1, "most", 0)]))
        self.assertEqual(book.councils(), [("alpha", LEAST), ("zeta", MOST)])
        self.assertEqual([step[0] for step in book.answer("big")[1][0]], [1])
        self.assertEqual([step[0] for step in book.answer("low")[1][0]], [0])

    def test_the_way_does_not_matter(self):
        # Two books with the same rows, councils and wants by other deeds give the same answers.
        chance = random.Random(275)
        for _ in range(20):
            book = Book(2)
            for _ in range(60):
                outcome(book.do, some_deed(chance, 2, book.log()))
            other = Book(2)
            for name, wish in reversed(book.wants()):
                other.do(("want", name, wish[::-1]))
            for source, row in book.rows():
                other.do(("tell", source, row))
            for name, council in reversed(book.councils()):
                other.do(("found", name, council))
            self.assertEqual([book.rows(), book.councils(), book.wants()],
                             [other.rows(), other.councils(), other.wants()])
            for name, _ in book.wants():
                self.assertEqual(book.answer(name), other.answer(name))

    def test_unknown(self):
        book = book_with(("tell", "ann", (0, 0)), ("found", "max", MOST), ("want", "big", HIGH), ("want", "far", []))
        book.do(("drop", "far"))
        for name in ("far", "ann", "max", "a", "zzzzzzzz"):
            self.check_raises("Unknown", [name], book.answer, name)
            self.check_raises("Unknown", [name], book.since, name)
        book.back()
        self.assertEqual(book.since("far"), 4)
        self.assertEqual(book.answer("far"), ("plan", ([], 0)))

    def test_since(self):
        book = book_with(("want", "far", [(0, "least", 5)]), ("tell", "ann", (1, 1)), ("want", "big", HIGH))
        self.assertEqual([book.since("far"), book.since("big")], [1, 3])
        book.do(("tell", "bob", (7, 7)))
        self.assertEqual([book.since("far"), book.since("big")], [4, 3])
        book.do(("withdraw", "ann", (1, 1)))
        self.assertEqual([book.since("far"), book.since("big")], [4, 3])
        book.do(("drop", "big"))
        book.do(("want", "big", HIGH[::-1]))
        self.assertEqual([book.since("far"), book.since("big")], [4, 7])
        book.do(("withdraw", "bob", (7, 7)))
        self.assertEqual([book.since("far"), book.since("big")], [8, 8])
        book.back()
        self.assertEqual([book.since("far"), book.since("big")], [4, 7])
        book.insert(0, ("tell", "cyd", (9, 9)))
        self.assertEqual([book.since("far"), book.since("big")], [2, 8])
        book.insert(6, ("withdraw", "cyd", (9, 9)))
        self.assertEqual([book.since("far"), book.since("big")], [2, 9])
        book.insert(5, ("drop", "far"))
        self.check_raises("Unknown", ["far"], book.since, "far")

    def test_since_against_the_definition(self):
        chance = random.Random(276)
        found = []
        for _ in range(15):
            book, plain = Book(1), PlainBook(1)
            while len(book) < 50:
                deed = some_deed(chance, 1, plain.deeds)
                if chance.random() < 0.2:
                    at = chance.randint(0, len(plain.deeds))
                    self.assertEqual(outcome(book.insert, at, deed), outcome(plain.insert, at, deed))
                elif chance.random() < 0.1:
                    self.assertEqual(outcome(book.back), outcome(plain.back))
                else:
                    self.assertEqual(outcome(book.do, deed), outcome(plain.do, deed))
                if len(book) in (10, 30):
                    for name, _ in book.wants():
                        self.assertEqual(book.since(name), plain.since(name))
                        found.append(len(book) - book.since(name))
        self.assertGreater(len(set(found)), 10)

    def test_queries_change_nothing(self):
        chance = random.Random(277)
        book = Book(2)
        for _ in range(50):
            outcome(book.do, some_deed(chance, 2, book.log()))
        for _ in range(5):
            book.back()
        first = copy.deepcopy(self.all_of(book))
        for _ in range(3):
            self.assertEqual(self.all_of(book), first)


class CopiesTest(BooksCase):
    def test_past(self):
        log = [("tell", "ann", (1, 0)), ("found", "max", MOST), ("want", "big", HIGH), ("tell", "bob", (0, 1))]
        book = book_with(*log)
        book.back()
        for count in range(4):
            other = book.past(count)
            self.assertEqual([other.log(), len(other), other.width()], [log[:count], count, 2])
            self.check_raises("Nothing", [], other.again)
            other.do(("tell", "you", (5, 5)))
            self.assertEqual([book.log(), book.rows()], [log[:3], [("ann", (1, 0))]])
        for wrong in [-1, 4, 5, 10 ** 39, True, False, None, "1", [1], (1,), b"", *odd_values()]:
            self.check_raises("Wrong", [0], book.past, wrong)
        self.assertEqual(book.again(), log[3])
        self.assertEqual(book.past(4), book)

    def test_copied(self):
        book = book_with(("tell", "ann", (1, 0)), ("want", "big", HIGH), ("tell", "bob", (0, 1)),
                         ("found", "max", MOST))
        book.back()
        book.back()
        other, third = book.copied(), book.copied()
        self.assertEqual(other, book)
        self.assertEqual([other.again(), other.again()], [("tell", "bob", (0, 1)), ("found", "max", MOST)])
        self.assertEqual(len(book), 2)
        other.do(("withdraw", "ann", (1, 0)))
        self.check_raises("Nothing", [], other.again)
        self.assertEqual(book.again(), ("tell", "bob", (0, 1)))
        book.do(("drop", "big"))
        self.check_raises("Nothing", [], book.again)
        self.assertEqual(third.log(), [("tell", "ann", (1, 0)), ("want", "big", HIGH)])
        self.assertEqual([third.again(), third.again()], [("tell", "bob", (0, 1)), ("found", "max", MOST)])
        third.back()
        self.assertEqual([len(book), len(other), len(third)], [4, 5, 3])

    def test_equal(self):
        log = [("tell", "ann", (1, 0)), ("found", "max", MOST), ("want", "big", HIGH)]
        book = book_with(*log)
        self.assertIs(book == book_with(*log), True)
        self.assertIs(book != book_with(*log), False)
        same = [("tell", "ann", (1, 0)), ("found", "max", Council([1, 1], [2, 2])), ("want", "big", HIGH[::-1])]
        self.assertEqual(book, book_with(*same))
        self.assertIs(book == book_with(log[1], log[0], log[2]), False)
        self.assertIs(book == book_with(*log[:2]), False)
        self.assertIs(book == book_with(*log[:2], ("want", "big", HIGH[:1])), False)
        self.assertIs(book == book_with(log[0], ("found", "max", LEAST), log[2]), False)
        self.assertIs(Book(2) == Book(2), True)
        self.assertIs(Book(2) == Book(3), False)
        self.assertIs(book_with(("want", "big", [])) == book_with(("want", "big", []), width=3), False)
        # Deeds to do again do not count.
        other = book_with(*log, ("drop", "big"))
        other.back()
        self.assertEqual(book, other)
        for thing in [None, 2, "book", [], log, (2, log), Council([1, 1], [1, 1]), Book, *odd_values()]:
            self.assertIs(book == thing, False)
            self.assertIs(thing == book, False)
            self.assertIs(book != thing, True)

    def test_length(self):
        book = Book(2)
        for many, name in enumerate(WANTS[:8]):
            self.assertEqual(len(book), many)
            book.do(("want", name, []))
        book.back()
        book.insert(0, ("tell", "ann", (0, 0)))
        self.assertEqual(len(book), 8)

    def test_passed_things_may_be_changed(self):
        wish, weights, quotas = [(1, "least", 1), (0, "least", 1)], [1, 1], [2, 2]
        council, deed = Council(weights, quotas), ("want", "big", wish)
        book = book_with(deed, ("tell", "ann", (1, 0)))
        self.assertEqual(wish, HIGH[::-1])
        wish.clear()
        self.assertEqual(book.wants(), [("big", HIGH)])
        book.do(("found", "max", council))
        weights.append(5)
        quotas.clear()
        council.weights().clear()
        self.assertEqual(book.councils(), [("max", Council([1, 1], [2, 2]))])
        other = [(0, "most", 3)]
        book.insert(0, ("want", "low", other))
        other.append((1, "most", 3))
        self.assertEqual(book.wants(), [("big", HIGH), ("low", [(0, "most", 3)])])
        self.assertEqual(repr(council), "Council([1, 1], [2, 2])")

    def test_returned_things_may_be_changed(self):
        book = book_with(("want", "big", HIGH), ("tell", "ann", (1, 0)), ("found", "max", MOST),
                         ("tell", "bob", (0, 1)))
        before = copy.deepcopy(self.all_of(book))
        for thing in (book.log(), book.rows(), book.councils(), book.wants(), book.answer("big")[1][0]):
            for part in thing:
                if isinstance(part[-1], list):
                    part[-1].clear()
            thing.clear()
        self.assertEqual(self.all_of(book), before)
        for _ in range(4):
            deed = book.back()
        deed[2].append((1, "most", 0))
        self.assertEqual(book.again(), ("want", "big", HIGH))
        book.back()
        again = book.again()
        again[2].clear()
        book.again()
        book.again()
        gained, lost = book.do(("tell", "bob", (5, 5)))
        gained.append("you")
        lost.append("you")
        self.assertEqual(book.wants(), [("big", HIGH)])
        self.assertEqual(book.log()[0], ("want", "big", HIGH))

    def test_two_books_do_not_influence_each_other(self):
        chance = random.Random(278)
        books, plains = [Book(2) for _ in range(3)], [PlainBook(2) for _ in range(3)]
        for _ in range(150):
            at = chance.randrange(3)
            deed = some_deed(chance, 2, plains[at].deeds)
            self.assertEqual(outcome(books[at].do, deed), outcome(plains[at].do, deed))
        for book, plain in zip(books, plains):
            self.check_same(book, plain)


class LargestTest(BooksCase):
    def test_the_largest_book(self):
        chance = random.Random(279)
        for greatest in (5, 10 ** 6):
            start = time.perf_counter()
            book = Book(6)
            for name in WANTS[:8]:
                book.do(("want", name, [(*side, chance.randint(-3, 0) if side[1] == "least" else chance.randint(0, 3))
                                        for side in TWELVE_SIDES]))
            for name in COUNCILS[:5]:
                book.do(("found", name, some_council(chance, 6, 7, greatest)))
            for at in range(40):
                book.do(("tell", SOURCES[at % 3], (at, *some_row(chance, 5, -5, 5))))
            while len(book) < 99:
                deed = ("close", "alpha") if len(book) % 2 else ("found", "alpha", some_council(chance, 6, 7, greatest))
                book.do(deed)
            self.assertLess(time.perf_counter() - start, 10)
            start = time.perf_counter()
            answers = [(book.answer(name), book.since(name)) for name in WANTS[:8]]
            self.assertLess(time.perf_counter() - start, 10)
            other = book.copied()
            start = time.perf_counter()
            other.insert(99, ("close", book.councils()[-1][0]))
            self.assertEqual(len(other), 100)
            for name in WANTS[:8]:
                other.since(name)
            self.assertLess(time.perf_counter() - start, 10)
            self.assertEqual([(book.answer(name), book.since(name)) for name in WANTS[:8]], answers)

    def test_errors_are_errors_of_the_package(self):
        book = full_book()
        for function, *arguments in ((Book, 0), (book.do, None), (book.do, ("drop", "big")), (book.again,),
                                     (book.past, 101), (book.insert, 0, None), (book.answer, "you")):
            with self.assertRaises(CouncilError):
                function(*arguments)


if __name__ == "__main__":
    unittest.main()
