"""Promise [104], and what [3] and [4] say of desks."""

import random
import re
import time
import unittest

from packedseats.books import Book
from packedseats.desk import Desk, answered
from packedseats.listing import is_made
from packedseats.notation import read_row
from packedseats.ranges import extremes
from packedseats.sources import strength
from packedseats.wishes import is_paper, is_possible
from tests.plain import TWELVE_SIDES, check_examples, odd_values, plain_meets, some_council, some_row
from tests.plain_books import COUNCILS, SOURCES, WANTS, outcome, some_deed
from tests.plain_texts import (
    NAME, NUMBER, plain_deed, spoiled, write_council, write_deed, write_row, write_wish,
)

NO_COMMAND = ("raised", "NoCommand", [])
LOG = "tell ann 2,0\ntell bob 0,2\nwant big 0>=1,1>=1\nwant low 0<=1\n"


def desk_with(text, width=2):
    desk = Desk(width)
    for line in text.splitlines():
        desk.execute(line)
    return desk


def written_changes(told):
    return " ".join(["gained", *told[0], "lost", *told[1]])


class PlainDesk:
    """Answers each line from a Book, and reads lines by regular expressions."""

    def __init__(self, width):
        self.book = Book(width)

    def answer(self, line):
        """Return what a desk answers, as outcome does; None for a plan, which may be any one."""
        book, width = self.book, self.book.width()
        deed = plain_deed(line, width)
        if deed is not None:
            return self.changed(outcome(book.do, deed))
        found = re.fullmatch(r"insert ([0-9]+) ((?s:.*))", line)
        if found and re.fullmatch(NUMBER, found[1]) and len(found[1]) <= 40:
            deed = plain_deed(found[2], width)
            return NO_COMMAND if deed is None else self.changed(outcome(book.insert, int(found[1]), deed))
        if line in ("back", "again"):
            kind, *told = outcome(book.back if line == "back" else book.again)
            return (kind, *told) if kind == "raised" else (kind, write_deed(told[0]))
        if line in ("rows", "councils", "wants", "log"):
            return ("returned", self.listed(line))
        found = re.fullmatch(rf"(can|since|paper|plan|strength) ({NAME})", line)
        if found:
            return self.asked(found[1], found[2])
        found = re.fullmatch(rf"range ({NAME}) ({NUMBER})", line)
        if found and len(found[2]) < 3 and 0 <= int(found[2]) < width:
            return self.asked("range", found[1], int(found[2]))
        return NO_COMMAND

    def changed(self, found):
        return found if found[0] == "raised" else ("returned", written_changes(found[1]))

    def listed(self, word):
        book = self.book
        if word == "log":
            return "".join(write_deed(deed) + "\n" for deed in book.log())
        lists = {"rows": (book.rows(), write_row), "councils": (book.councils(), write_council),
                 "wants": (book.wants(), write_wish)}
        things, writer = lists[word]
        return "; ".join(f"{name} {writer(thing)}" for name, thing in things) or "-"

    def asked(self, word, name, column=None):
        book, wants = self.book, dict(self.book.wants())
        if name not in wants:
            return ("raised", "Unknown", [name])
        rows, councils = [row for _, row in book.rows()], [council for _, council in book.councils()]
        possible = is_possible(rows, councils, wants[name])
        if word == "plan" and possible:
            return None
        if word == "range":
            found = extremes(rows, councils, wants[name], column)
            return ("returned", "none" if found is None else "%d %d" % found)
        if word == "strength":
            number, _, sources = strength(book.rows(), councils, wants[name])
            return ("returned", " ".join([str(number), *sources]))
        answers = {"can": "yes" if possible else "no", "since": str(book.since(name)), "plan": "none",
                   "paper": "none" if possible else write_wish(book.answer(name)[1])}
        return ("returned", answers[word])


class DeskCase(unittest.TestCase):
    def check_raises(self, name, fields, function, *arguments):
        self.assertEqual(outcome(function, *arguments), ("raised", name, fields), arguments)

    def check_end(self, desk, name, text):
        """Check that the text writes a row that can be made and meets the wish of this name."""
        book = self.book_of(desk)
        row = read_row(text, book.width())
        self.assertTrue(plain_meets(row, dict(book.wants())[name]))
        self.assertTrue(is_made([other for _, other in book.rows()], [some for _, some in book.councils()], row))

    def book_of(self, desk):
        """Return a Book with the log of the desk."""
        for width in range(1, 7):
            book = Book(width)
            lines = desk.execute("log").splitlines()
            if all(plain_deed(line, width) is not None for line in lines):
                for line in lines:
                    book.do(plain_deed(line, width))
                return book


class DeskTest(DeskCase):
    def test_example(self):
        check_examples(self, """
>>> from packedseats.desk import answered
>>> answered(2, 'tell ann 2,0\\ntell bob 0,2\\nwant big 0>=1,1>=1\\n', 'paper big')
'0>=1,1>=1'
""")

    def test_widths(self):
        for width in range(1, 7):
            desk = Desk(width)
            self.assertEqual([desk.execute(word) for word in ("rows", "councils", "wants", "log")], ["-", "-", "-", ""])
            row = ",".join(["0"] * width)
            self.assertEqual(desk.execute(f"tell ann {row}"), "gained lost")
            self.check_raises("NoCommand", [], desk.execute, f"tell ann {row},0")
            self.assertEqual(desk.execute("want big -"), "gained lost")
            for column in range(8):
                expected = ("returned", "0 0") if column < width else NO_COMMAND
                self.assertEqual(outcome(desk.execute, f"range big {column}"), expected)
        for thing in [0, 7, -1, 10 ** 39, True, False, None, "2", b"2", [2], (2,), *odd_values()]:
            self.check_raises("Wrong", [0], Desk, thing)

    def test_a_day_at_the_desk(self):
        desk = Desk(2)
        for line, text in (
            ("rows", "-"), ("councils", "-"), ("wants", "-"), ("log", ""),
            ("tell ann 2,0", "gained lost"), ("tell bob 0,2", "gained lost"), ("want big 0>=1,1>=1", "gained lost"),
            ("can big", "no"), ("since big", "3"), ("paper big", "0>=1,1>=1"), ("plan big", "none"), ("range big 0",
            "none"),
            ("strength big", "0"), ("found max 1,1/2,2", "gained big lost"), ("can big", "yes"), ("since big", "4"),
            ("paper big", "none"), ("plan big", "2,2"), ("range big 0", "2 2"), ("range big 1", "2 2"),
            ("strength big", "1 ann"), ("want far 0<=5", "gained lost"), ("want all -", "gained lost"),
            ("strength all", "2 ann bob"), ("strength far", "2 ann bob"), ("range all 1", "0 2"),
            ("rows", "ann 2,0; bob 0,2"), ("councils", "max 1,1/2,2"),
            ("wants", "all -; big 0>=1,1>=1; far 0<=5"), ("withdraw ann 2,0", "gained lost big"), ("paper big", "0>=1"),
            ("withdraw bob 0,2", "gained lost all far"), ("paper all", "-"), ("plan all", "none"), ("range all 0",
            "none"),
            ("strength all", "0"), ("can all", "no"), ("since all", "8"), ("rows", "-"), ("back", "withdraw bob 0,2"),
            ("back", "withdraw ann 2,0"), ("again", "withdraw ann 2,0"), ("insert 0 tell cyd 3,3", "gained big lost"),
            ("rows", "cyd 3,3; bob 0,2"), ("since big", "4"), ("insert 1 withdraw cyd 3,3", "gained lost big"),
            ("drop all", "gained lost"), ("close max", "gained lost"), ("councils", "-"), ("drop big", "gained lost"),
            ("drop far", "gained lost"), ("wants", "-"),
        ):
            self.assertEqual(desk.execute(line), text, line)
        self.assertEqual(desk.execute("log"), "tell cyd 3,3\nwithdraw cyd 3,3\ntell ann 2,0\ntell bob 0,2\n"
                         "want big 0>=1,1>=1\nfound max 1,1/2,2\nwant far 0<=5\nwant all -\nwithdraw ann 2,0\n"
                         "drop all\nclose max\ndrop big\ndrop far\n")

    def test_several_gained_and_lost(self):
        desk = desk_with("want zoo 0>=1\nwant abc 0>=1\nwant low 0<=0\ntell ann 0,0\n")
        self.assertEqual(desk.execute("tell bob 1,0"), "gained abc zoo lost")
        self.assertEqual(desk.execute("withdraw ann 0,0"), "gained lost low")
        self.assertEqual(desk.execute("withdraw bob 1,0"), "gained lost abc zoo")
        self.assertEqual(desk.execute("insert 0 tell cyd 5,5"), "gained abc zoo lost")

    def test_errors_of_the_book(self):
        desk = desk_with(LOG + "found max 1,1/2,2\n")
        before = desk.execute("log")
        for line, name, fields in (
            ("tell ann 2,0", "Told", ["ann"]), ("withdraw ann 0,2", "NotTold", ["ann"]), ("drop you",
            "Unknown", ["you"]),
            ("found max 1,1/1,1", "Taken", ["max"]), ("close min", "Unknown", ["min"]), ("want big -",
            "Taken", ["big"]),
            ("again", "Nothing", []), ("insert 6 drop big", "Wrong", [0]), ("insert 0 drop big", "Broken", [0]),
            ("insert 0 tell ann 2,0", "Broken", [1]), ("insert 9999999 drop big", "Wrong", [0]),
            (f"insert {'9' * 40} drop big", "Wrong", [0]), ("insert 5 want low -", "Broken", [5]),
        ):
            self.check_raises(name, fields, desk.execute, line)
        self.check_raises("NoCommand", [], desk.execute, f"insert {'9' * 41} drop big")
        self.check_raises("NoCommand", [], desk.execute, f"insert 1{'0' * 40} drop big")
        self.assertEqual(desk.execute("log"), before)
        for word in ("can", "since", "paper", "plan", "strength"):
            for name in ("you", "max", "ann", "zzzzzzzz"):
                self.check_raises("Unknown", [name], desk.execute, f"{word} {name}")
        self.check_raises("Unknown", ["you"], desk.execute, "range you 0")
        self.check_raises("NoCommand", [], desk.execute, "range you 2")
        self.check_raises("Nothing", [], Desk(2).execute, "back")

    def test_limits(self):
        desk = desk_with("".join(f"tell ann {at},0\n" for at in range(40)))
        self.check_raises("TooMany", [40], desk.execute, "tell ann 40,0")
        desk = desk_with("".join(f"found {name} 1,1/2,2\n" for name in COUNCILS[:5]))
        self.check_raises("TooMany", [5], desk.execute, "found zeta 1,1/2,2")
        desk = desk_with("".join(f"want {name} -\n" for name in WANTS[:8]))
        self.check_raises("TooMany", [8], desk.execute, "want xyz -")
        desk = desk_with("want big -\ndrop big\n" * 50)
        for line in ("want big -", "drop big", "insert 0 want big -", "insert 100 drop big"):
            self.check_raises("TooMany", [100], desk.execute, line)
        self.check_raises("Wrong", [0], desk.execute, "insert 101 drop big")
        self.check_raises("NoCommand", [], desk.execute, "insert 101 drop")
        self.assertEqual([desk.execute("back"), desk.execute("drop big")], ["drop big", "gained lost"])

    def test_lines_that_are_no_commands(self):
        desk = desk_with(LOG)
        before = [desk.execute(word) for word in ("log", "rows", "wants")]
        good = ["rows", "councils", "wants", "log", "back", "again", "can big", "since big", "paper big", "plan big",
                "strength big", "range big 0", "insert 0 want x -", "tell you 1,1", "drop big"]
        for line in good:
            for wrong in (line + " ", " " + line, line + "\n", line.upper(), line.capitalize(), line + " -",
                          line + " x y",
                          line.replace(" ", "  ") + (" " if " " not in line else ""), line[1:], line + "\x00",
                          line + ";",
                          line.replace(" ", "\n") + ("\n" if " " not in line else ""), "\n" + line, line + "\t",
                          line * 2,
                          line.replace(" ", "\t") + ("\t" if " " not in line else ""), line.encode(), [line], (line,)):
                self.check_raises("NoCommand", [], desk.execute, wrong)
        for line in (
            "", " ", "-", "can", "since", "paper", "plan", "strength", "range", "insert", "can ", "can Big", "can big1",
            "can abcdefghi", "can big big", "can -", "can 1", "range big", "range big ", "range 0", "range 0 big",
            "range big 2", "range big 6", "range big -1", "range big -0", "range big 00", "range big 01",
            "range big +0",
            "range big 0 0", "range big 0,1", "range big a", "range big \u0661", "range big \uff10", "range BIG 0",
            "range big " + "9" * 5000, "insert 0", "insert 0 ", "insert drop big", "insert -1 drop big",
            "insert -0 drop big", "insert 00 drop big", "insert 01 drop big", "insert +1 drop big",
            "insert 1.0 drop big",
            "insert a drop big", "insert 0 0 drop big", "insert  0 drop big", "insert 0  drop big", "insert 0 drop",
            "insert 0 back", "insert 0 can big", "insert 0 insert 0 drop big", "insert 0 drop big ",
            "insert 0 drop Big",
            "insert \u0661 drop big", "insert " + "9" * 5000 + " drop big", "insert 0 tell ann 1", "insert 0 want big",
            "row", "rows big", "rows -", "log log", "back 1", "again 1", "undo", "help", "tell", "tell ann",
            "tell ann 1",
            "want big", "drop", "close", "found max", "found max 1,1/2", "answer big", "width", "None", "0",
            "do drop big",
        ):
            self.check_raises("NoCommand", [], desk.execute, line)
        for thing in odd_values():
            self.check_raises("NoCommand", [], desk.execute, thing)
        self.assertEqual([desk.execute(word) for word in ("log", "rows", "wants")], before)

    def test_runs_against_the_plain_desk(self):
        chance = random.Random(290)
        many = {}
        for _ in range(60):
            width = chance.randint(1, 3)
            desk, plain = Desk(width), PlainDesk(width)
            for _ in range(60):
                line = self.some_line(chance, width, plain.book)
                found, expected = outcome(desk.execute, line), plain.answer(line)
                if expected is None:
                    self.assertEqual(found[0], "returned")
                    self.check_end(desk, line.split(" ")[1], found[1])
                else:
                    self.assertEqual(found, expected, line)
                key = (line.split(" ")[0], found[0])
                many[key] = many.get(key, 0) + 1
        for word in ("can", "since", "paper", "plan", "range", "strength", "insert", "back", "again", "tell", "want"):
            self.assertGreater(min(many.get((word, kind), 0) for kind in ("returned", "raised")), 5, word)

    def some_line(self, chance, width, book):
        name = chance.choice([name for name, _ in book.wants()] + WANTS[:1])
        deed = write_deed(some_deed(chance, width, book.log()))
        line = chance.choice([deed] * 8 + [
            f"can {name}", f"since {name}", f"paper {name}", f"plan {name}", f"strength {name}",
            f"range {name} {chance.randint(0, width)}", f"insert {chance.randint(0, len(book) + 1)} {deed}", "back",
            "again",
            chance.choice(["rows", "councils", "wants", "log"]),
        ])
        return spoiled(chance, line) if chance.random() < 0.15 else line

    def test_queries_change_nothing(self):
        desk = desk_with(LOG + "found max 1,1/2,2\n")
        desk.execute("back")
        queries = ["can big", "since big", "paper big", "plan big", "range big 0", "strength big", "rows", "councils",
                   "wants", "log"]
        first = [desk.execute(line) for line in queries]
        for _ in range(3):
            self.assertEqual([desk.execute(line) for line in queries], first)
        self.assertEqual(desk.execute("again"), "found max 1,1/2,2")

    def test_two_desks(self):
        one, other = Desk(2), Desk(2)
        one.execute("tell ann 1,1")
        self.assertEqual([one.execute("rows"), other.execute("rows")], ["ann 1,1", "-"])
        other.execute("want big -")
        self.assertEqual([one.execute("wants"), other.execute("wants")], ["-", "big -"])
        self.check_raises("Nothing", [], one.execute, "again")
        self.assertEqual(other.execute("back"), "want big -")
        self.assertEqual(one.execute("log"), "tell ann 1,1\n")

    def test_the_largest_desk(self):
        chance = random.Random(291)
        desk = Desk(6)
        start = time.perf_counter()
        for name in WANTS[:8]:
            wish = [(*side, chance.randint(-3, 0) if side[1] == "least" else chance.randint(0, 3))
                    for side in TWELVE_SIDES]
            desk.execute(f"want {name} {write_wish(wish)}")
        for name in COUNCILS[:5]:
            desk.execute(f"found {name} {write_council(some_council(chance, 6, 7, 10 ** 6))}")
        for at in range(40):
            desk.execute(f"tell {SOURCES[at % 3]} {write_row((at, *some_row(chance, 5, -5, 5)))}")
        for at in range(23):
            desk.execute("close alpha")
            desk.execute(f"found alpha {write_council(some_council(chance, 6, 7, 10 ** 6))}")
        self.assertLess(time.perf_counter() - start, 20)
        text = desk.execute("log")
        self.assertEqual(text.count("\n"), 99)
        start = time.perf_counter()
        for word in ("can", "since", "paper", "plan", "strength"):
            for name in WANTS[:8]:
                desk.execute(f"{word} {name}")
        for name in WANTS[:8]:
            desk.execute(f"range {name} 5")
        self.assertLess(time.perf_counter() - start, 20)
        start = time.perf_counter()
        self.assertEqual(answered(6, text, "log"), text)
        for line in ("since big", "plan big", "rows", "insert 99 close alpha"):
            self.assertEqual(answered(6, text, line), desk.execute(line))
        self.assertLess(time.perf_counter() - start, 20)


class AnsweredTest(DeskCase):
    def test_each_line_as_a_desk(self):
        for line in ("rows", "councils", "wants", "log", "back", "can big", "since big", "paper big", "plan low",
                     "range low 0", "strength low", "tell cyd 5,5", "insert 0 tell cyd 5,5", "drop big"):
            self.assertEqual(answered(2, LOG, line), desk_with(LOG).execute(line))
            self.assertEqual(answered(2, "", "wants"), "-")
        for line in ("again", "drop you", "insert 9 drop big", "insert 0 drop big", "can you", "nothing",
                     "tell ann 2,0"):
            self.assertEqual(outcome(answered, 2, LOG, line), outcome(desk_with(LOG).execute, line))

    def test_nothing_is_kept(self):
        for _ in range(3):
            self.assertEqual(answered(2, LOG, "tell cyd 5,5"), "gained big lost")
            self.assertEqual(answered(2, LOG, "rows"), "ann 2,0; bob 0,2")
            self.assertEqual(answered(2, LOG, "back"), "want low 0<=1")
            self.check_raises("Nothing", [], answered, 2, LOG, "again")
            self.check_raises("Nothing", [], answered, 2, "", "back")
            self.assertEqual(answered(1, "", "log"), "")

    def test_the_errors_of_the_log_come_first(self):
        no_strings = [thing for thing in odd_values() if not isinstance(thing, str)]
        for line in ("rows", "nothing", None, "can you", 5, "again"):
            for text in (None, 5, b"", ["tell ann 2,0\n"], *no_strings):
                self.check_raises("NoText", [], answered, 2, text, line)
            for text, at in (("rows\n", 0), (LOG + "\n", 4), (LOG + "drop you\n", 4), (LOG[:-1], 3), (LOG + LOG, 4),
                             ("tell ann 1\n", 0), (" ", 0)):
                self.check_raises("Broken", [at], answered, 2, text, line)
        for thing in odd_values():
            self.check_raises("NoCommand", [], answered, 2, LOG, thing)
            self.check_raises("NoCommand", [], answered, 2, "", thing)

    def test_full_log(self):
        text = "want big -\ndrop big\n" * 50
        self.check_raises("TooMany", [100], answered, 2, text, "want big -")
        self.check_raises("Broken", [100], answered, 2, text + "want big -\n", "log")
        self.assertEqual(answered(2, text, "back"), "drop big")
        self.assertEqual(answered(2, text, "log"), text)

    def test_papers_are_papers(self):
        chance = random.Random(292)
        many = 0
        for _ in range(100):
            width = chance.randint(1, 3)
            plain = PlainDesk(width)
            for _ in range(20):
                plain.answer(write_deed(some_deed(chance, width, plain.book.log())))
            text = plain.listed("log")
            rows, councils = [row for _, row in plain.book.rows()], [some for _, some in plain.book.councils()]
            for name, wish in plain.book.wants():
                paper = answered(width, text, f"paper {name}")
                self.assertEqual(paper == "none", is_possible(rows, councils, wish))
                if paper != "none":
                    many += 1
                    self.assertTrue(is_paper(rows, councils, wish, plain.book.answer(name)[1]))
                    self.assertEqual(paper, write_wish(plain.book.answer(name)[1]))
        self.assertGreater(many, 40)


if __name__ == "__main__":
    unittest.main()
