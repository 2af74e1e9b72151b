"""Promise [61]."""

import copy
import itertools
import random
import time
import unittest

from packedseats.councils import Council
from packedseats.errors import CouncilError, TooMany
from packedseats.listing import all_rows, first_row, is_made, row_after
from packedseats.wishes import is_possible
from tests.plain import (
    GREAT, TWELVE_SIDES, check_examples, plain_made, plain_meets, some_council, some_row, some_small_board, some_wish,
)

MEDIAN = Council([1, 1, 1], [2, 2, 2])
LEAST, GREATEST = Council([1, 1], [1, 1, 1]), Council([1, 1], [2, 2, 2])
PAIRS = [(1, 1, 0), (1, 0, 1), (0, 1, 1)]


def grid_rows(sizes):
    """Return rows in which each entry of a grid of these sizes is told."""
    return [tuple(entry % size for size in sizes) for entry in range(max(sizes))]


def grid_councils(width):
    """Return two councils that make together all rows of a grid from such rows.

    Any weight from 0 to 127 is that of some seats, so each two sides of different columns are heavy for one council:
    two with "least" for the first, two with "most" for the second, and one of each for the first or the second.
    """
    weights = [1, 2, 4, 8, 16, 32, 64]
    first, second = [65 + 2 * column for column in range(width)], [63 - 2 * column for column in range(width)]
    return [Council(weights, first), Council(weights, second)]


def slanting_rows(many, start):
    """Return so many rows of width 2, of which each two have a least row of their own."""
    return [(start + at, start + many - at) for at in range(many)]


class ListingTest(unittest.TestCase):
    def check_rows(self, rows, councils, wish, made):
        """Check all functions of the listing against the rows that can be made."""
        kept = copy.deepcopy([rows, wish])
        wanted = sorted(row for row in made if plain_meets(row, wish))
        found = all_rows(rows, councils, wish)
        self.assertEqual(found, wanted)
        self.assertEqual([type(found), {type(row) for row in found}], [list, {tuple for _ in wanted}])
        self.assertEqual(first_row(rows, councils, wish), wanted[0] if wanted else None)
        for row, following in zip(wanted, [*wanted[1:], None]):
            self.assertEqual(row_after(rows, councils, wish, row), following)
        self.assertEqual([rows, wish], kept)

    def check_too_many(self, told, *asked, **more):
        with self.assertRaises(CouncilError) as caught:
            all_rows(*asked, **more)
        self.assertIs(type(caught.exception), TooMany)
        self.assertEqual(caught.exception.limit, told)

    def test_example(self):
        check_examples(self, """
>>> from packedseats.councils import Council
>>> from packedseats.listing import all_rows, row_after
>>> rows, median = [(1, 1, 0), (1, 0, 1), (0, 1, 1)], Council([1, 1, 1], [2, 2, 2])
>>> [all_rows(rows, [median], []), row_after(rows, [median], [], (1, 0, 5))]
[[(0, 1, 1), (1, 0, 1), (1, 1, 0), (1, 1, 1)], (1, 1, 0)]
""")

    def test_against_all_sessions(self):
        chance = random.Random(100)
        for _ in range(150):
            rows, councils = some_small_board(chance)
            made = plain_made(rows, councils)
            for bounds in (None, 0, 1):
                wish = some_wish(chance, councils[0].width(), 0, 3, bounds)
                self.check_rows(rows, councils, wish, made)

    def test_row_after_each_row_of_the_grid_and_around(self):
        chance = random.Random(101)
        for _ in range(25):
            rows, councils = some_small_board(chance)
            width, made = councils[0].width(), plain_made(rows, councils)
            wish = some_wish(chance, width, 0, 3, chance.randint(0, 2))
            wanted = sorted(row for row in made if plain_meets(row, wish))
            for row in itertools.product(range(-1, 5), repeat=width):
                following = [other for other in wanted if other > row]
                self.assertEqual(row_after(rows, councils, wish, row), following[0] if following else None)

    def test_is_made_for_each_row_of_the_grid_and_around(self):
        chance = random.Random(102)
        for _ in range(40):
            rows, councils = some_small_board(chance)
            made = plain_made(rows, councils)
            for row in itertools.product(range(-1, 5), repeat=councils[0].width()):
                self.assertIs(is_made(rows, councils, row), row in made)

    def test_entries_that_nobody_told(self):
        rows = [(0, 9, 4), (8, 3, 0), (5, 5, 5)]
        for council in (MEDIAN, LEAST, GREATEST):
            for row in ((1, 9, 4), (0, 9, 3), (8, 4, 0), (6, 6, 6), (GREAT, -GREAT, GREAT), (-1, -1, -1)):
                self.assertIs(is_made(rows, [council], row), False)
            for row in rows:
                self.assertIs(is_made(rows, [council], row), True)
        self.assertIs(is_made(rows, [MEDIAN], (5, 5, 4)), True)
        self.assertIs(is_made(rows, [LEAST], (5, 5, 4)), False)
        self.assertIs(is_made(rows, [LEAST], (0, 3, 0)), True)

    def test_below_between_and_above(self):
        rows, least, greatest = [(2, 4), (6, 0)], (-GREAT, -GREAT), (GREAT, GREAT)
        council = Council([1, 1], [1, 1])
        self.assertEqual(all_rows(rows, [council], []), [(2, 0), (2, 4), (6, 0)])
        for row, following in ((least, (2, 0)), ((1, 9), (2, 0)), ((2, -1), (2, 0)), ((2, 0), (2, 4)), ((2, 3), (2, 4)),
                               ((2, 4), (6, 0)), ((2, 9), (6, 0)), ((3, 3), (6, 0)), ((6, -1), (6, 0)), ((6, 0), None),
                               ((6, 1), None), ((7, -5), None), (greatest, None)):
            self.assertEqual(row_after(rows, [council], [], row), following)
            self.assertEqual(row_after(rows, [council], [(0, "least", 3)], row), following and (6, 0))
            self.assertIsNone(row_after(rows, [council], [(0, "most", 1)], row))

    def test_empty_shelf(self):
        for councils in ([], [MEDIAN], [LEAST, GREATEST]):
            for wish in ([], [(0, "least", -GREAT)], [(2, "most", 3), (0, "least", 1)]):
                self.assertIs(is_made([], councils, (0, 0, 0)), False)
                self.assertIsNone(first_row([], councils, wish))
                self.assertIsNone(row_after([], councils, wish, (-1, -1, -1)))
                self.assertEqual(all_rows([], councils, wish), [])
                self.assertEqual(all_rows([], councils, wish, limit=1), [])

    def test_no_councils(self):
        chance = random.Random(103)
        for width in (1, 2, 3, 4, 5, 6):
            rows = [some_row(chance, width, 0, 2) for _ in range(chance.randint(1, 40))]
            for bounds in (0, 1, 2):
                self.check_rows(rows, [], some_wish(chance, width, 0, 2, bounds), set(rows))

    def test_limit_at_above_and_below_the_number_of_rows(self):
        chance = random.Random(104)
        for _ in range(60):
            rows, councils = some_small_board(chance)
            wish = some_wish(chance, councils[0].width(), 0, 3, chance.randint(0, 2))
            found = all_rows(rows, councils, wish)
            for limit in range(1, 9):
                if len(found) > limit:
                    self.check_too_many(limit, rows, councils, wish, limit=limit)
                else:
                    self.assertEqual(all_rows(rows, councils, wish, limit=limit), found)
            if len(found) > 1:
                self.check_too_many(len(found) - 1, rows, councils, wish, limit=len(found) - 1)

    def test_exactly_as_many_rows_as_the_limit_allows_and_more(self):
        councils = grid_councils(3)
        rows = grid_rows([8, 10, 5])
        grid = list(itertools.product(range(8), range(10), range(5)))
        self.assertEqual(len(grid), 400)
        self.assertEqual(all_rows(rows, councils, []), grid)
        self.assertEqual(all_rows(rows, councils, [], limit=400), grid)
        self.check_too_many(399, rows, councils, [], limit=399)
        self.check_too_many(1, rows, councils, [], limit=1)
        more, face = rows + [(8, 0, 0)], [(8, *rest) for rest in itertools.product(range(10), range(5))]
        self.check_too_many(400, more, councils, [])
        self.check_too_many(400, more, councils, [(0, "least", 0)], limit=400)
        self.assertEqual(all_rows(more, councils, [(0, "most", 7)]), grid)
        self.assertEqual(all_rows(more, councils, [(0, "least", 8)], limit=50), face)
        self.check_too_many(49, more, councils, [(0, "least", 8)], limit=49)

    def test_400_rows_and_401(self):
        council = Council([1, 1], [1, 1])
        rows = slanting_rows(27, 0) + slanting_rows(6, 100) + [(200, 200)]
        made = sorted(plain_made(rows, [council]))
        self.assertEqual(len(made), 400)
        self.assertEqual(all_rows(rows, [council], []), made)
        rows.append((201, 201))
        self.check_too_many(400, rows, [council], [])
        self.check_too_many(400, rows, [council], [], limit=400)
        self.assertEqual(all_rows(rows, [council], [(1, "most", 200)]), made)

    def test_told_rows_alone_and_the_limit(self):
        rows = [(at, -at) for at in range(40)]
        self.assertEqual(all_rows(rows[::-1], [], [], limit=40), rows)
        self.check_too_many(39, rows, [], [], limit=39)

    def test_all_rows_of_a_grid(self):
        for sizes in ([2] * 6, [3, 3, 3, 3, 2, 2], [4, 1, 5, 1, 4, 5], [4, 4, 4, 4], [20, 20], [40]):
            grid = list(itertools.product(*[range(size) for size in sizes]))
            rows, councils = grid_rows(sizes), grid_councils(len(sizes))
            self.assertEqual(all_rows(rows, councils, []), grid)
            for row, following in zip(grid[::7], grid[1::7]):
                self.assertEqual(row_after(rows, councils, [], row), following)
            self.assertIsNone(row_after(rows, councils, [], grid[-1]))

    def test_least_and_greatest_together(self):
        chance = random.Random(105)
        for _ in range(20):
            rows = [some_row(chance, 3, 0, 3) for _ in range(4)]
            councils = [LEAST, GREATEST]
            self.check_rows(rows, councils, [], plain_made(rows, councils))
        councils = [Council([1, 1], [1, 1]), Council([1, 1], [2, 2])]
        self.assertEqual(all_rows([(0, 1), (1, 0)], councils, []), [(0, 0), (0, 1), (1, 0), (1, 1)])
        self.assertEqual(all_rows([(0, 0), (1, 1)], councils, []), [(0, 0), (1, 1)])

    def test_forty_rows_of_width_six(self):
        chance = random.Random(106)
        listed = 0
        for greatest in (1, 2, 9, GREAT):
            for seats in (2, 5, 7):
                rows = [some_row(chance, 6, 0, greatest) for _ in range(40)]
                councils = [some_council(chance, 6, seats) for _ in range(chance.randint(1, 5))]
                start = time.perf_counter()
                for wish in ([], [(*side, rows[0][side[0]]) for side in chance.sample(TWELVE_SIDES, 8)],
                             [(*side, rows[0][side[0]]) for side in TWELVE_SIDES]):
                    listed += self.check_forty(rows, councils, wish)
                self.assertLess(time.perf_counter() - start, 20)
        self.assertGreater(listed, 10)

    def check_forty(self, rows, councils, wish):
        """Check the listing by single questions; return whether it has not too many rows."""
        try:
            found = all_rows(rows, councils, wish)
        except TooMany:
            found = None
        row = first_row(rows, councils, wish)
        begun = []
        while row is not None and len(begun) < 8:
            begun.append(row)
            self.assertIs(is_made(rows, councils, row), True)
            row = row_after(rows, councils, wish, row)
        self.assertEqual(begun, sorted(begun))
        for row in rows[:8]:
            self.assertTrue(found is None or not plain_meets(row, wish) or row in found)
            following = row_after(rows, councils, wish, row)
            if found is not None:
                self.assertEqual([other for other in found if other > row][:1], [following] if following else [])
        if found is not None:
            self.assertEqual(found[:8], begun)
            self.assertIs(is_possible(rows, councils, wish), found != [])
        return found is not None

    def test_great_entries(self):
        rows = [(-GREAT, GREAT, 0), (GREAT, -GREAT, 0), (0, 0, GREAT)]
        for councils in ([MEDIAN], [LEAST], [GREATEST], [LEAST, GREATEST]):
            self.check_rows(rows, councils, [], plain_made(rows, councils))

    def test_rows_that_are_told_twice(self):
        for row in PAIRS:
            self.assertEqual(all_rows(PAIRS + [row] * 5, [MEDIAN], []), all_rows(PAIRS, [MEDIAN], []))
        self.assertEqual(all_rows([(3,)] * 40, [Council([1, 1], [1])], []), [(3,)])

    def test_same_question_again(self):
        wish = [(1, "least", 1), (0, "least", 1)]
        found = all_rows(PAIRS, [MEDIAN], wish)
        kept = list(found)
        found.append(None)
        all_rows(PAIRS, [LEAST], []).clear()
        self.check_too_many(1, PAIRS, [MEDIAN], wish, limit=1)
        self.assertEqual(all_rows(PAIRS, [MEDIAN], wish), kept)
        self.assertEqual(all_rows(PAIRS[::-1], [MEDIAN], wish[::-1]), kept)
        self.assertEqual([PAIRS, wish], [[(1, 1, 0), (1, 0, 1), (0, 1, 1)], [(1, "least", 1), (0, "least", 1)]])


if __name__ == "__main__":
    unittest.main()
