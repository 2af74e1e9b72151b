"""Promises [102] and [103]."""

import random
import time
import unittest

from packedseats.books import Book
from packedseats.councils import Council
from packedseats.notation import (
    read_council, read_deed, read_log, read_row, read_wish, show_council, show_deed, show_log, show_row, show_wish,
)
from tests.plain import GREAT, check_examples, odd_values, some_council, some_row, some_wish
from tests.plain_books import some_deed, outcome
from tests.plain_texts import (
    plain_council, plain_deed, plain_row, plain_wish, spoiled, write_council, write_deed, write_row, write_wish,
)

MOST = Council([1, 1], [2, 2])
NO_TEXT = ("raised", "NoText", [])
READERS = [(read_row, plain_row), (read_wish, plain_wish), (read_council, plain_council), (read_deed, plain_deed)]
NO_NUMBERS = [
    "", " ", "-", "--1", "-0", "00", "01", "-01", "+1", "+0", "1 ", " 1", "1\n", "\n1", "1.0", "1.", ".1", "1e1", "1_0",
    "0x1", "a", "one", "1a", "-a", "- 1", "\u0661", "\uff11", "\u00b2", "\u00bd", "1\u0661", "\u22121", "1\u00a0",
    "9" * 5000, "-" + "9" * 5000, "9" * 41, "0" * 50, "1" * 40, "True", "None", "'1'", "(1)", "[1]", "1,", ",1", ",",
    "1,,1", "1;1", "1\x00", "\t1",
]


class ShowTest(unittest.TestCase):
    def test_examples(self):
        check_examples(self, """
>>> from packedseats.notation import show_wish, read_wish
>>> [show_wish([(1, 'most', -3), (0, 'least', 1)]), read_wish('-', 2)]
['0>=1,1<=-3', []]
>>> from packedseats.notation import read_row
>>> read_row('1,02', 2)
raises NoText()
""")

    def test_texts_by_hand(self):
        wish = [(1, "least", 1), (0, "most", -5), (1, "most", 0), (0, "least", -GREAT)]
        for found, text in (
            (show_row((2, -1)), "2,-1"), (show_row((0,)), "0"), (show_row((GREAT, -GREAT)),
            f"1{18 * '0'},-1{18 * '0'}"),
            (show_wish([]), "-"), (show_wish(wish), f"0>=-1{18 * '0'},0<=-5,1>=1,1<=0"),
            (show_council(MOST), "1,1/2,2"), (show_council(Council([10 ** 6] * 7, [7 * 10 ** 6])),
                                              ",".join(["1000000"] * 7) + "/7000000"),
            (show_deed(("tell", "ann", (2, -1))), "tell ann 2,-1"), (show_deed(("found", "max", MOST)),
            "found max 1,1/2,2"),
            (show_deed(("want", "big", [(1, "least", 1), (0, "least", 1)])), "want big 0>=1,1>=1"),
            (show_deed(("want", "big", [])), "want big -"), (show_deed(("drop", "big")), "drop big"),
            (show_deed(("close", "max")), "close max"), (show_deed(("withdraw", "ann", (2, -1))), "withdraw ann 2,-1"),
        ):
            self.assertEqual(found, text)
            self.assertIs(type(found), str)
        book = Book(2)
        self.assertEqual(show_log(book), "")
        for deed in (("tell", "ann", (2, -1)), ("want", "big", []), ("drop", "big")):
            book.do(deed)
        self.assertEqual(show_log(book), "tell ann 2,-1\nwant big -\ndrop big\n")
        book.back()
        self.assertEqual(show_log(book), "tell ann 2,-1\nwant big -\n")

    def test_arguments_are_not_changed(self):
        wish = [(1, "least", 1), (0, "least", 1)]
        deed, council = ("want", "big", wish), Council([3, 1], [2, 4])
        show_wish(wish)
        show_deed(deed)
        show_council(council)
        self.assertEqual([wish, deed[2], repr(council)],
                         [[(1, "least", 1), (0, "least", 1)]] * 2 + ["Council([3, 1], [2, 4])"])

    def test_what_is_shown_is_read_back(self):
        chance = random.Random(280)
        for _ in range(400):
            width = chance.randint(1, 6)
            greatest = chance.choice([1, 20, GREAT])
            row, council = some_row(chance, width, -greatest, greatest), some_council(chance, width)
            wish, deed = some_wish(chance, width, -greatest, greatest), some_deed(chance, width, [])
            self.assertEqual(show_row(row), write_row(row))
            self.assertEqual(show_wish(wish), write_wish(wish))
            self.assertEqual(show_council(council), write_council(council))
            self.assertEqual(show_deed(deed), write_deed(deed))
            self.assertEqual(read_row(show_row(row), width), row)
            self.assertEqual(read_wish(show_wish(wish), width), sorted(wish))
            self.assertEqual(read_council(show_council(council), width), council)
            read = read_deed(show_deed(deed), width)
            self.assertEqual(read, (*deed[:2], *[sorted(part) if type(part) is list else part for part in deed[2:]]))
            self.assertEqual(show_deed(read), show_deed(deed))

    def test_logs_are_read_back(self):
        chance = random.Random(281)
        for _ in range(20):
            width = chance.randint(1, 6)
            book = Book(width)
            for _ in range(60):
                outcome(book.do, some_deed(chance, width, book.log()))
            text = show_log(book)
            self.assertEqual(text, "".join(write_deed(deed) + "\n" for deed in book.log()))
            read = read_log(text, width)
            self.assertEqual([read, show_log(read)], [book, text])
            self.assertEqual(outcome(read.again), ("raised", "Nothing", []))


class ReadTest(unittest.TestCase):
    def test_spoiled_texts(self):
        chance = random.Random(282)
        many = {}
        for _ in range(4000):
            width = chance.randint(1, 3)
            deed = some_deed(chance, width, [])
            text = write_deed(deed)
            for _ in range(chance.randint(0, 2)):
                text = spoiled(chance, text)
            part = text.split(" ", 2)[-1]
            for at, (reader, plain) in enumerate(READERS):
                shown = text if reader is read_deed else part
                for some_width in {width, chance.randint(1, 6)}:
                    expected = plain(shown, some_width)
                    found = outcome(reader, shown, some_width)
                    self.assertEqual(found, NO_TEXT if expected is None else ("returned", expected), shown)
                    many[(at, expected is None)] = many.get((at, expected is None), 0) + 1
        self.assertGreater(min(many.values()), 300)
        self.assertEqual(len(many), 8)

    def test_values_that_are_no_strings(self):
        wish, row, deed = [(0, "least", 1)], (1, 2), ("drop", "big")
        for thing in [wish, row, deed, MOST, 0, 1, b"0", b"1,2", ["1,2"], ("1,2",), {"1,2"}, [], b"-", *odd_values()]:
            for reader, _ in READERS:
                self.assertEqual(outcome(reader, thing, 2), NO_TEXT)
            if not isinstance(thing, str):
                self.assertEqual(outcome(read_log, thing, 2), NO_TEXT)

    def test_rows(self):
        for text, row in (("0", (0,)), ("-1", (-1,)), ("1,2", (1, 2)), ("0,-7,10", (0, -7, 10)),
                          (str(GREAT), (GREAT,)), (str(-GREAT), (-GREAT,)), ("0,0,0,0,0,0", (0,) * 6)):
            for width in range(1, 7):
                expected = ("returned", row) if width == len(row) else NO_TEXT
                self.assertEqual(outcome(read_row, text, width), expected)
        for number in NO_NUMBERS + [str(GREAT + 1), str(-GREAT - 1)]:
            self.assertEqual(outcome(read_row, number, 1), NO_TEXT, number)
            for text in (number + ",1", "1," + number):
                self.assertEqual(outcome(read_row, text, 2), NO_TEXT, text)

    def test_wishes(self):
        for text, wish in (("-", []), ("0>=1", [(0, "least", 1)]), ("0<=-1", [(0, "most", -1)]),
                           ("0>=5,0<=3,1<=0", [(0, "least", 5), (0, "most", 3), (1, "most", 0)]),
                           (f"1>={GREAT},1<={-GREAT}", [(1, "least", GREAT), (1, "most", -GREAT)])):
            self.assertEqual(read_wish(text, 2), wish)
        for text in ("", " ", "--", "-,-", "-,0>=1", "0>=1,-", "0>=1,0>=1", "0>=1,0>=2", "0<=1,0>=1", "1>=1,0>=1",
                     "2>=1", "6>=1", "-1>=1", "00>=1", "0>=01", "0>=+1", "0>=-0", "0=>1", "0>1", "0<1", "0=1", "0==1",
                     "0>=1 ", " 0>=1", "0 >=1", "0>= 1", "0>=1, 1>=1", "0>=1\n", "0>=1,", ",0>=1", "0>=1;1>=1", ">=1",
                     "0>=", ">=", "<=", "0>=1>=1", "0<=1<=1", "0>=1<=2", "0<=1>=2", "0>=1<=", "a>=1", "0>=a", "-0>=1",
                     "0\u2265" "1", "0>=\u0661", "\u0660>=1", "0>=" + "9" * 5000, "9" * 5000 + ">=1",
                     f"0>={GREAT + 1}", f"0<={-GREAT - 1}", "0>=1.0", "0,1", "least", "0>=1,1>=1,2>=1", "0least1"):
            self.assertEqual(outcome(read_wish, text, 2), NO_TEXT, text)
        for number in NO_NUMBERS:
            for text in (number + ">=1", number + "<=1", "0>=" + number, "0<=" + number, "0>=1,1<=" + number):
                self.assertEqual(outcome(read_wish, text, 2), NO_TEXT, text)
        for width in range(1, 7):
            for column in range(8):
                expected = ("returned", [(column, "most", 1)]) if column < width else NO_TEXT
                self.assertEqual(outcome(read_wish, f"{column}<=1", width), expected)

    def test_councils(self):
        for text, council in (("1,1/1", Council([1, 1], [1])), ("2,1,1/2,4", Council([2, 1, 1], [2, 4])),
                              ("1000000,1/1000001", Council([10 ** 6, 1], [10 ** 6 + 1])),
                              ("1,1,1,1,1,1,1/7,1,1,1,1,1", Council([1] * 7, [7, 1, 1, 1, 1, 1]))):
            for width in range(1, 7):
                expected = ("returned", council) if width == council.width() else NO_TEXT
                self.assertEqual(outcome(read_council, text, width), expected)
        for text in ("", "/", "1,1", "1,1/", "/1", "1/1", "1,1/1/1", "1,1//1", "1,1/3", "1,1/0", "1,1/-1", "0,1/1",
                     "-1,3/1", "1000001,1/1", "1,1,1,1,1,1,1,1/1", "1,1 /1", "1,1/ 1", " 1,1/1", "1,1/1 ", "1,1/1\n",
                     "01,1/1", "1,1/01", "1,1/+1", "+1,1/1", "1,,1/1", "1,1,/1", "1,1/1,", ",1,1/1", "1;1/1",
                     "1,1\\1", "1,1/-", "-/1", "a,1/1", "1,1/a", "1,\u0661/1", "1,1/" + "9" * 5000,
                     "9" * 5000 + ",1/1", "1,1.0/1", "1,1/1.0", "[1, 1]/[1]", "Council([1, 1], [1])"):
            self.assertEqual(outcome(read_council, text, 1), NO_TEXT, text)
        for number in NO_NUMBERS:
            for text in (number + ",1/1", "1," + number + "/1", "1,1/" + number):
                self.assertEqual(outcome(read_council, text, 1), NO_TEXT, text)

    def test_deeds(self):
        for text, deed in (
            ("tell ann 2,-1", ("tell", "ann", (2, -1))), ("withdraw abcdefgh 0,0", ("withdraw", "abcdefgh", (0, 0))),
            ("found max 1,1/2,2", ("found", "max", MOST)), ("close max", ("close", "max")),
            ("want big 0>=1,1>=1", ("want", "big", [(0, "least", 1), (1, "least", 1)])), ("want z -", ("want",
            "z", [])),
            ("drop big", ("drop", "big")), ("tell tell 1,1", ("tell", "tell", (1, 1))), ("drop drop", ("drop", "drop")),
        ):
            self.assertEqual(read_deed(text, 2), deed)
            for wrong in (text + " ", " " + text, text + "\n", "\n" + text, text.replace(" ", "  "), text.upper(),
                          text.replace(" ", "\n"), text.replace(" ", "\t"), text.capitalize(), text + " -",
                          text + " 1,1", text.split(" ", 1)[1], text.split(" ")[0], text + text, text.replace(" ", ""),
                          text.replace(" ", "\u00a0"), text + ";", text[1:], text + "\x00", text + "\r"):
                self.assertEqual(outcome(read_deed, wrong, 2), NO_TEXT, wrong)
        for text in ("", " ", "  ", "-", "tell", "tell ann", "tell ann ", "tell ann 1", "tell ann 1,1,1", "tell ann -",
                     "tell ann 1,1/2,2", "tell ann 0>=1", "tell Ann 1,1", "tell ann1 1,1", "tell abcdefghi 1,1",
                     "tell  1,1", "tell 1,1", "tell ann bob 1,1", "withdraw ann", "withdraw ann 1", "found max",
                     "found max -", "found max 1,1/2", "found max 1,1", "found max 1,1/2,3", "found max 1,1/2,2 x",
                     "close", "close ", "close max 1,1/2,2", "close max -", "close MAX", "want big", "want big ",
                     "want big 1,1", "want big 1>=1,0>=1", "want big 2>=1", "want big 0>=1 1>=1", "drop", "drop big -",
                     "drop big big", "back", "again", "log", "rows", "insert 0 drop big", "can big", "Tell ann 1,1",
                     "tells ann 1,1", "tell \u00e4nn 1,1", "tell ann \u0661,1", "tell ann " + "9" * 5000 + ",1"):
            self.assertEqual(outcome(read_deed, text, 2), NO_TEXT, text)

    def test_results_are_new(self):
        for reader, text in ((read_wish, "0>=1"), (read_wish, "-")):
            found = reader(text, 2)
            kept = list(found)
            found.append((1, "most", 5))
            self.assertEqual(reader(text, 2), kept)
        deed = read_deed("want big 0>=1", 2)
        deed[2].clear()
        self.assertEqual(read_deed("want big 0>=1", 2), ("want", "big", [(0, "least", 1)]))
        book = read_log("want big 0>=1\n", 2)
        book.do(("drop", "big"))
        self.assertEqual(len(read_log("want big 0>=1\n", 2)), 1)


class ReadLogTest(unittest.TestCase):
    def check_broken(self, text, at, width=2):
        self.assertEqual(outcome(read_log, text, width), ("raised", "Broken", [at]), text)

    def test_good_logs(self):
        for width in range(1, 7):
            self.assertEqual(read_log("", width), Book(width))
            self.assertEqual(read_log("want big -\n", width).wants(), [("big", [])])
        book = read_log("tell ann 2,0\ntell bob 0,2\nwant big 0>=1,1>=1\nfound max 1,1/2,2\n", 2)
        self.assertIs(type(book), Book)
        self.assertEqual(book.rows(), [("ann", (2, 0)), ("bob", (0, 2))])
        self.assertEqual([book.councils(), book.width(), len(book)], [[("max", MOST)], 2, 4])
        self.assertEqual([book.since("big"), book.answer("big")[0]], [4, "plan"])
        self.assertEqual(outcome(book.again), ("raised", "Nothing", []))

    def test_lines_that_are_no_deeds(self):
        good = "tell ann 2,0\nwant big -\n"
        for line in ("", " ", "tell", "drop", "Drop big", "drop big ", " drop big", "tell ann 1", "log", "-",
                     "drop big\r"):
            self.check_broken(line + "\n", 0)
            self.check_broken(line + "\n" + good, 0)
            self.check_broken(good + line + "\n", 2)
            self.check_broken(good + line + "\ndrop big\n", 2)
            self.check_broken(good + line + "\n" + line + "\n", 2)
        self.check_broken("\n", 0)
        self.check_broken("\n\n", 0)
        self.check_broken(good + "\n", 2)
        self.check_broken(good.replace("\n", "\n\n"), 1)
        self.check_broken(good.replace("\n", "\r\n"), 0)
        self.check_broken(good.replace("\n", "\x0b"), 0)
        self.check_broken(good.replace("\n", "\x85") + "\n", 0)

    def test_a_last_line_without_line_feed(self):
        self.check_broken("drop big", 0)
        self.check_broken("tell ann 2,0", 0)
        self.check_broken("tell ann 2,0\nwant big -", 1)
        self.check_broken("tell ann 2,0\ndrop big\nwant big -", 1)
        self.check_broken("tell ann 2,0\ntell ann 2,0", 1)
        self.check_broken(" ", 0)

    def test_deeds_that_raise_errors(self):
        for text, at in (
            ("drop big\n", 0), ("close max\n", 0), ("withdraw ann 1,1\n", 0), ("tell ann 1,1\ntell ann 1,1\n", 1),
            ("tell ann 1,1\nwithdraw bob 1,1\n", 1), ("want big -\nwant big 0>=1\n", 1),
            ("want big -\n\ndrop you\n", 1),
            ("want big -\ndrop you\n\n", 1), ("found max 1,1/2,2\nfound max 1,1/1,1\nnothing\n", 1),
            ("".join(f"tell ann {at},0\n" for at in range(41)), 40),
            ("".join(f"found {name} 1,1/2,2\n" for name in "abcdefg"), 5),
            ("".join(f"want {name} -\n" for name in "abcdefghij"), 8),
            ("tell ann 1,1,1\n", 0), ("found max 1,1/2\n", 0),
        ):
            self.check_broken(text, at)

    def test_a_hundred_lines_and_one_more(self):
        pair = "want big -\ndrop big\n"
        self.assertEqual(len(read_log(pair * 50, 2)), 100)
        self.check_broken(pair * 50 + "want big -\n", 100)
        self.check_broken(pair * 50 + "want big -", 100)
        self.check_broken(pair * 50 + "\n", 100)
        self.check_broken(pair * 50 + "what is this", 100)
        self.check_broken(pair * 49 + "drop big\n" + pair * 10, 98)
        self.check_broken(pair * 15000, 100)
        self.check_broken("\n" * 30000, 0)

    def test_spoiled_logs(self):
        chance = random.Random(283)
        many = {}
        for _ in range(300):
            width = chance.randint(1, 2)
            book = Book(width)
            for _ in range(15):
                outcome(book.do, some_deed(chance, width, book.log()))
            lines = [write_deed(deed) + "\n" for deed in book.log()]
            at = chance.randrange(len(lines))
            lines[at] = spoiled(chance, lines[at])
            expected = self.plain_log("".join(lines), width)
            found = outcome(read_log, "".join(lines), width)
            self.assertEqual(found, expected)
            many[found[0]] = many.get(found[0], 0) + 1
        self.assertGreater(min(many.values()), 20)

    def plain_log(self, text, width):
        book, lines = Book(width), text.split("\n")
        for at, line in enumerate(lines):
            if at == len(lines) - 1:
                return ("returned", book) if line == "" else ("raised", "Broken", [at])
            deed = plain_deed(line, width)
            if deed is None or outcome(book.do, deed)[0] == "raised":
                return ("raised", "Broken", [at])

    def test_long_texts(self):
        start = time.perf_counter()
        for text in ("1," * 30000 + "1", "0>=1," * 30000 + "0>=1", "tell ann " + "1," * 30000, "x" * 100000,
                     " " * 30000,
                     "/" * 30000, ">=" * 30000, "\n" * 30000):
            for reader, _ in READERS:
                self.assertEqual(outcome(reader, text, 2), NO_TEXT)
            self.assertEqual(outcome(read_log, text, 2)[:2], ("raised", "Broken"))
        self.assertLess(time.perf_counter() - start, 10)


if __name__ == "__main__":
    unittest.main()
