"""Promises [92] and [93]."""

import copy
import random
import time
import unittest

from packedseats.councils import Council
from packedseats.listing import is_made
from packedseats.shelves import core, parted
from packedseats.wishes import is_possible
from tests.plain import (
    GREAT, check_examples, plain_made, some_council, some_row, some_small_board, some_wish,
)

MOST = Council([1, 1], [2, 2])
MEDIAN = Council([1, 1, 1], [2, 2])


def plain_parted(rows, others, councils):
    """Return the answer of [92], by asking for each row whether it can be made from the other shelf."""
    for which, (shelf, other) in enumerate([(rows, others), (others, rows)]):
        for index, row in enumerate(shelf):
            if not is_made(other, councils, row):
                return (which, index)
    return None


def plain_core(rows, can_make):
    """Return the answer of [93], by going through the rows."""
    left = list(range(len(rows)))
    for index, row in enumerate(rows):
        others = [at for at in left if at != index]
        if can_make([rows[at] for at in others], row):
            left = others
    return left


def told_by_sessions(councils):
    """Return a function that tells whether a row can be made from others, by all sessions."""
    return lambda rows, row: row in plain_made(rows, councils)


class ShelvesCase(unittest.TestCase):
    def ask(self, function, *arguments):
        kept = copy.deepcopy([repr(argument) for argument in arguments])
        start = time.perf_counter()
        found = function(*arguments)
        self.assertLess(time.perf_counter() - start, 5)
        self.assertEqual([repr(argument) for argument in arguments], kept)
        return found


class PartedTest(ShelvesCase):
    def check(self, rows, others, councils):
        found = self.ask(parted, rows, others, councils)
        self.assertEqual(found, plain_parted(rows, others, councils))
        if found is not None:
            self.assertEqual([type(found), *map(type, found)], [tuple, int, int])
        return found

    def test_example(self):
        check_examples(self, """
>>> from packedseats.councils import Council
>>> from packedseats.shelves import parted
>>> parted([(1, 0), (0, 1)], [(1, 0), (0, 1), (1, 1)], [Council([1, 1, 1], [2, 2])])
(1, 2)
""")

    def test_against_all_sessions(self):
        chance = random.Random(260)
        answers = []
        for _ in range(300):
            rows, councils = some_small_board(chance)
            width = councils[0].width()
            others = [chance.choice(rows) if rows and chance.random() < 0.7 else some_row(chance, width, 0, 2)
                      for _ in range(chance.randint(0, 4))]
            found = self.check(rows, others, councils)
            self.assertEqual(found is None, plain_made(rows, councils) == plain_made(others, councils))
            answers.append(None if found is None else found[0])
        self.assertGreater(min(answers.count(answer) for answer in (None, 0, 1)), 20)

    def test_wider_shelves(self):
        chance = random.Random(261)
        answers = []
        for _ in range(120):
            width = chance.randint(2, 6)
            rows = [some_row(chance, width, 0, 2) for _ in range(chance.randint(2, 12))]
            councils = [some_council(chance, width) for _ in range(chance.randint(0, 5))]
            others = chance.sample(rows, chance.randint(1, len(rows)))
            answers.append(self.check(rows, others, councils) is None)
            self.check(others, rows, councils)
        self.assertGreater(min(answers.count(True), answers.count(False)), 20)

    def test_made_rows_other_orders_and_rows_twice(self):
        chance = random.Random(262)
        many = 0
        while many < 60:
            rows, councils = some_small_board(chance)
            made = sorted(plain_made(rows, councils))
            if len(made) == len(set(rows)):
                continue
            many += 1
            self.assertIsNone(self.check(rows, rows[::-1] + rows, councils))
            if len(made) <= 40:
                self.assertIsNone(self.check(rows, chance.sample(made, len(made)), councils))
            self.assertIsNone(self.check(rows + chance.sample(made, 1) * 2, rows, councils))
            far = (99,) * len(rows[0])
            self.assertEqual(self.check(rows, rows[::-1] + [made[0], far], councils), (1, len(rows) + 1))
            self.assertEqual(self.check([*rows, far, far], rows, councils), (0, len(rows)))

    def test_the_first_row_of_rows_goes_first(self):
        self.assertEqual(self.check([(5, 5), (0, 0)], [(7, 7), (0, 0)], [MEDIAN]), (0, 0))
        self.assertEqual(self.check([(0, 0), (5, 5)], [(7, 7), (0, 0)], [MEDIAN]), (0, 1))
        self.assertEqual(self.check([(0, 0), (0, 0)], [(0, 0), (7, 7), (8, 8)], [MEDIAN]), (1, 1))
        self.assertEqual(self.check([(1, 0), (0, 1), (9, 9), (8, 8)], [(1, 1)], [MOST]), (0, 0))
        self.assertEqual(self.check([(1, 0), (0, 1)], [(1, 0), (0, 1), (1, 1), (0, 0)], [MOST]), (1, 3))

    def test_empty_shelves_and_no_councils(self):
        for councils in ([], [MEDIAN], [MEDIAN] * 5):
            self.assertIsNone(self.check([], [], councils))
            self.assertEqual(self.check([(1, 1)], [], councils), (0, 0))
            self.assertEqual(self.check([], [(1, 1)], councils), (1, 0))
        self.assertIsNone(self.check([(1, 0), (0, 1)], [(0, 1), (1, 0), (0, 1)], []))
        self.assertEqual(self.check([(1, 0), (0, 1)], [(0, 1), (1, 1)], []), (0, 0))

    def test_the_largest_inputs(self):
        chance = random.Random(263)
        for greatest in (1, 5, 10 ** 6):
            councils = [some_council(chance, 6, 7, greatest) for _ in range(5)]
            rows = [some_row(chance, 6, 0, 3) for _ in range(40)]
            self.ask(parted, rows, [some_row(chance, 6, 0, 3) for _ in range(40)], councils)
            self.assertIsNone(self.ask(parted, rows, chance.sample(rows, 40), councils))
            left = [rows[at] for at in core(rows, councils)]
            self.assertIsNone(self.ask(parted, rows, left, councils))
            self.assertIsNone(self.ask(parted, left, rows, councils))


class CoreTest(ShelvesCase):
    def check(self, rows, councils, can_make=None):
        found = self.ask(core, rows, councils)
        can_make = can_make or (lambda others, row: is_made(others, councils, row))
        self.assertEqual(found, plain_core(rows, can_make))
        self.assertEqual([type(found), {type(at) for at in found}], [list, {int for _ in found}])
        # The core of the core is all of it.
        left = [rows[at] for at in found]
        self.assertEqual(core(left, councils), list(range(len(left))))
        return found

    def test_example(self):
        check_examples(self, """
>>> from packedseats.councils import Council
>>> from packedseats.shelves import core
>>> core([(1, 1), (1, 0), (0, 1), (1, 1)], [Council([1, 1], [2, 2])])
[1, 2]
""")

    def test_against_all_sessions(self):
        chance = random.Random(264)
        gone = []
        for _ in range(200):
            rows, councils = some_small_board(chance)
            made = sorted(plain_made(rows, councils))
            rows += chance.sample(made, min(2, len(made)))
            chance.shuffle(rows)
            found = self.check(rows, councils, told_by_sessions(councils))
            gone.append(len(rows) - len(found))
            self.assertEqual(plain_made([rows[at] for at in found], councils), plain_made(rows, councils))
        self.assertGreater(min(gone.count(many) for many in (0, 1, 2)), 10)

    def test_wider_shelves_and_wishes_decided_alike(self):
        chance = random.Random(265)
        gone = []
        for _ in range(100):
            width = chance.randint(2, 6)
            rows = [some_row(chance, width, 0, 2) for _ in range(chance.randint(2, 12))]
            councils = [some_council(chance, width) for _ in range(chance.randint(0, 5))]
            found = self.check(rows, councils)
            gone.append(len(found) < len(set(rows)))
            left = [rows[at] for at in found]
            for _ in range(5):
                wish = some_wish(chance, width, 0, 2)
                self.assertIs(is_possible(left, councils, wish), is_possible(rows, councils, wish))
        self.assertGreater(min(gone.count(True), gone.count(False)), 20)

    def test_rows_told_twice(self):
        # The last of several equal rows stays.
        self.assertEqual(self.check([(1, 0), (0, 1), (1, 0), (1, 0), (0, 1)], []), [3, 4])
        self.assertEqual(self.check([(3, 3)] * 40, [MEDIAN] * 5), [39])
        self.assertEqual(self.check([(1, 0), (1, 1), (0, 1), (1, 0)], [MOST]), [2, 3])

    def test_the_first_row_goes_first(self):
        # Two rows across make the two others, so those stay that are asked last.
        councils = [Council([1, 1], [1, 2]), Council([1, 1], [2, 1]), MOST, Council([1, 1], [1, 1])]
        self.assertEqual(self.check([(0, 0), (0, 1), (1, 0), (1, 1)], councils), [1, 2])
        self.assertEqual(self.check([(0, 1), (1, 0), (0, 0), (1, 1)], councils), [2, 3])
        self.assertEqual(self.check([(0, 1), (0, 0), (1, 1), (1, 0)], councils), [1, 2])
        self.assertEqual(self.check([(1, 1), (1, 0), (0, 1)], [MOST]), [1, 2])
        self.assertEqual(self.check([(1, 0), (0, 1), (1, 1)], [MOST]), [0, 1])

    def test_empty_shelf_one_row_and_no_councils(self):
        for councils in ([], [MEDIAN], [MEDIAN] * 5):
            self.assertEqual(self.check([], councils), [])
            self.assertEqual(self.check([(GREAT, -GREAT)], councils), [0])
        self.assertEqual(self.check([(0, 1), (1, 0), (1, 1)], []), [0, 1, 2])

    def test_the_largest_inputs(self):
        chance = random.Random(266)
        for greatest in (1, 5, 10 ** 6):
            for entries in (1, 9, GREAT):
                councils = [some_council(chance, 6, 7, greatest) for _ in range(5)]
                rows = [some_row(chance, 6, -entries, entries) for _ in range(40)]
                found = self.ask(core, rows, councils)
                self.assertEqual(found, sorted(set(found)))
                self.assertEqual(len(self.ask(core, [rows[at] for at in found], councils)), len(found))

    def test_same_question_again(self):
        rows = [(1, 1), (1, 0), (0, 1), (1, 1)]
        core(rows, [MOST]).clear()
        core(rows, []).append(9)
        self.assertEqual(core(rows, [MOST]), [1, 2])
        self.assertEqual(core(rows, []), [1, 2, 3])
        self.assertEqual([parted(rows, rows[1:3], [MOST]), parted(rows, rows[1:3], [])], [None, (0, 0)])
        self.assertEqual([parted(rows, rows[1:3], [MOST]), parted(rows, rows[1:3], [])], [None, (0, 0)])
        self.assertEqual(rows, [(1, 1), (1, 0), (0, 1), (1, 1)])


if __name__ == "__main__":
    unittest.main()
