"""Promise [60]."""

import copy
import random
import time
import unittest

from packedseats.bounds import joined
from packedseats.councils import Council
from packedseats.ranges import extremes
from packedseats.wishes import decide, is_paper
from tests.plain import (
    GREAT, TWELVE_SIDES, check_examples, check_plan, plain_made, plain_meets, some_council, some_row, some_small_board,
    some_wish,
)

MEDIAN = Council([1, 1, 1], [2, 2, 2])
PAIRS = [(1, 1, 0), (1, 0, 1), (0, 1, 1)]


class RangesTest(unittest.TestCase):
    def check_by_plans(self, rows, councils, wish, column):
        """Check that both answers are met by plans, and that there are papers beyond them."""
        least, greatest = extremes(rows, councils, wish, column)
        for way, entry, beyond in (("most", least, least - 1), ("least", greatest, greatest + 1)):
            narrowed = joined(wish, [(column, way, entry)])
            kind, plan = decide(rows, councils, narrowed)
            self.assertEqual(kind, "plan")
            self.assertEqual(check_plan(self, rows, councils, narrowed, plan)[column], entry)
            narrowed = joined(wish, [(column, way, beyond)])
            kind, paper = decide(rows, councils, narrowed)
            self.assertEqual(kind, "never")
            self.assertIs(is_paper(rows, councils, narrowed, paper), True)

    def test_example(self):
        check_examples(self, """
>>> from packedseats.councils import Council
>>> from packedseats.ranges import extremes
>>> extremes([(1, 1, 0), (1, 0, 1), (0, 1, 1)], [Council([1, 1, 1], [2, 2, 2])], [(0, 'least', 1), (1, 'least', 1)], 2)
(0, 1)
""")

    def test_against_all_sessions(self):
        chance = random.Random(90)
        none = some = narrow = 0
        for _ in range(300):
            rows, councils = some_small_board(chance)
            width, made = councils[0].width(), plain_made(rows, councils)
            for wish in ([], some_wish(chance, width, 0, 3), some_wish(chance, width, 0, 3, 1)):
                for column in range(width):
                    kept = copy.deepcopy([rows, wish])
                    entries = [row[column] for row in made if plain_meets(row, wish)]
                    found = extremes(rows, councils, wish, column)
                    self.assertEqual(found, (min(entries), max(entries)) if entries else None)
                    self.assertEqual([rows, wish], kept)
                    none, some = none + (not entries), some + bool(entries)
                    narrow += found is not None and found != extremes(rows, councils, [], column)
        self.assertGreater(min(none, some, narrow), 100)

    def test_bounds_on_the_column_itself(self):
        rows = [(0, 0, 0), (4, 1, 0), (9, 0, 1)]
        self.assertEqual(extremes(rows, [MEDIAN], [], 0), (0, 9))
        self.assertEqual(extremes(rows, [MEDIAN], [(0, "least", 1)], 0), (4, 9))
        self.assertEqual(extremes(rows, [MEDIAN], [(0, "most", 8), (0, "least", -3)], 0), (0, 4))
        self.assertEqual(extremes(rows, [MEDIAN], [(0, "most", 8), (0, "least", 4)], 0), (4, 4))
        self.assertIsNone(extremes(rows, [MEDIAN], [(0, "most", 8), (0, "least", 5)], 0))
        self.assertIsNone(extremes(rows, [MEDIAN], [(0, "least", 10)], 0))
        self.assertIsNone(extremes(rows, [MEDIAN], [(0, "least", 10)], 1))

    def test_entries_that_nobody_told_beside_other_bounds(self):
        # Only a made row has these three entries, and only rows that are told have the outer ones.
        self.assertEqual(extremes(PAIRS, [MEDIAN], [(1, "least", 1), (2, "least", 1)], 0), (0, 1))
        self.assertEqual(extremes(PAIRS, [MEDIAN], [(0, "least", 1), (1, "least", 1), (2, "least", 1)], 0), (1, 1))
        self.assertEqual(extremes(PAIRS, [], [(1, "least", 1), (2, "least", 1)], 0), (0, 0))

    def test_empty_shelf_and_empty_wish(self):
        for councils in ([], [MEDIAN], [MEDIAN] * 5):
            for column in range(3):
                self.assertIsNone(extremes([], councils, [], column))
                self.assertIsNone(extremes([], councils, [(0, "least", -GREAT)], column))
                self.assertEqual(extremes(PAIRS, councils, [], column), (0, 1))
                self.assertEqual(extremes(PAIRS[:1] * 3, councils, [], column), (PAIRS[0][column],) * 2)

    def test_no_councils_and_dictators(self):
        chance = random.Random(91)
        for _ in range(50):
            rows = [some_row(chance, 6, 0, 4) for _ in range(chance.randint(1, 40))]
            wish, column = some_wish(chance, 6, 0, 4, chance.randint(0, 4)), chance.randrange(6)
            entries = [row[column] for row in rows if plain_meets(row, wish)]
            right = (min(entries), max(entries)) if entries else None
            self.assertEqual(extremes(rows, [], wish, column), right)
            self.assertEqual(extremes(rows, [Council([9, 1, 1, 1], [4] * 6)] * 2, wish, column), right)

    def test_forty_rows_with_great_entries(self):
        chance = random.Random(92)
        for bounds in (0, 1, 2, 3, 4, 6, 8, 10, 12, 12):
            rows = [some_row(chance, 6, -GREAT, GREAT) for _ in range(40)]
            councils = [some_council(chance, 6, 7) for _ in range(chance.randint(1, 5))]
            outer = {"least": 5, "most": 34}
            wish = [(column, way, sorted(row[column] for row in rows)[outer[way]])
                    for column, way in chance.sample(TWELVE_SIDES, bounds)]
            for column in range(6):
                start = time.perf_counter()
                found = extremes(rows, councils, wish, column)
                self.assertLess(time.perf_counter() - start, 5)
                self.assertIs(found is None, decide(rows, councils, wish)[0] == "never")
                if found is not None:
                    self.check_by_plans(rows, councils, wish, column)

    def test_small_boards_by_plans(self):
        chance = random.Random(93)
        for _ in range(150):
            rows, councils = some_small_board(chance)
            wish = some_wish(chance, councils[0].width(), 0, 3)
            if extremes(rows, councils, wish, 0) is not None:
                self.check_by_plans(rows, councils, wish, 0)

    def test_the_greatest_values(self):
        rows = [(-GREAT, GREAT), (GREAT, -GREAT)]
        for council in (Council([1, 1, 1], [2, 2]), Council([1, 1], [1, 1]), Council([1, 1], [2, 2])):
            for column in range(2):
                self.assertEqual(extremes(rows, [council], [], column), (-GREAT, GREAT))
        self.assertEqual(extremes(rows, [Council([1, 1], [1, 1])], [(1, "most", 0)], 0), (-GREAT, GREAT))
        self.assertEqual(extremes(rows, [Council([1, 1], [2, 2])], [(1, "most", 0)], 0), (GREAT, GREAT))

    def test_same_question_again(self):
        wish = [(1, "least", 1), (0, "least", 1)]
        first = extremes(PAIRS, [MEDIAN], wish, 2)
        extremes(PAIRS[:1], [], [], 0)
        self.assertEqual(extremes(PAIRS, [MEDIAN], wish, 2), first)
        self.assertEqual(extremes(PAIRS, [MEDIAN], wish[::-1], 2), first)
        self.assertEqual([type(first), wish], [tuple, [(1, "least", 1), (0, "least", 1)]])


if __name__ == "__main__":
    unittest.main()
