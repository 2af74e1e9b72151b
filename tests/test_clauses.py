"""Promise [62]."""

import copy
import inspect
import itertools
import random
import time
import unittest

from packedseats.clauses import clauses
from packedseats.councils import Council
from packedseats.errors import CouncilError, TooMany
from packedseats.listing import is_made
from tests.plain import (
    GREAT, TWELVE_SIDES, check_examples, plain_is_heavy, plain_made, plain_meets, some_council, some_row,
    some_small_board, subsets_of,
)

MEDIAN = Council([1, 1, 1], [2, 2])
LEAST = Council([1, 1], [1, 1])


def told_entries(rows, column):
    return sorted({row[column] for row in rows})


def loosened(rows, wish):
    """Return all wishes that come from this one by leaving out a bound or by taking its next looser value."""
    found = []
    for at, (column, way, value) in enumerate(wish):
        told = told_entries(rows, column)
        looser = told.index(value) + (1 if way == "most" else -1)
        found.append(wish[:at] + wish[at + 1:])
        if 0 <= looser < len(told):
            found.append(wish[:at] + [(column, way, told[looser])] + wish[at + 1:])
    return found


def is_clause(rows, councils, wish):
    """Return whether an ascending wish is a clause, as [62] says it, part by part."""
    values = {bound[:2]: bound[2] for bound in wish}
    if any(value not in told_entries(rows, side[0]) for side, value in values.items()):
        return False
    if any(values.get((k, "least"), -GREAT) > values.get((k, "most"), GREAT) for k in range(6)):
        return False
    if any(plain_is_heavy(council, list(values)) for council in councils):
        return False
    met = [any(plain_meets(row, some) for row in rows) for some in [wish, *loosened(rows, wish)]]
    return not met[0] and all(met[1:])


def plain_clauses(rows, councils, width):
    """Return all clauses by going through all wishes of told entries."""
    found = []
    for sides in subsets_of(TWELVE_SIDES[:2 * width]):
        for values in itertools.product(*[told_entries(rows, column) for column, _ in sides]):
            wish = [(*side, value) for side, value in zip(sides, values)]
            if is_clause(rows, councils, wish):
                found.append(wish)
    return sorted(found)


class ClausesTest(unittest.TestCase):
    def check(self, rows, councils, width):
        kept = copy.deepcopy(rows)
        found = clauses(rows, councils)
        self.assertEqual(found, plain_clauses(rows, councils, width))
        self.assertEqual(rows, kept)
        return found

    def check_too_many(self, told, *asked, **more):
        with self.assertRaises(CouncilError) as caught:
            clauses(*asked, **more)
        self.assertIs(type(caught.exception), TooMany)
        self.assertEqual(caught.exception.limit, told)

    def test_example(self):
        check_examples(self, """
>>> from packedseats.councils import Council
>>> from packedseats.clauses import clauses
>>> clauses([(2, 0), (0, 2)], [Council([1, 1, 1], [2, 2])])
[[(0, 'least', 2), (1, 'least', 2)], [(0, 'most', 0), (1, 'most', 0)]]
""")

    def test_against_all_wishes(self):
        chance = random.Random(110)
        for _ in range(120):
            rows, councils = some_small_board(chance)
            self.check(rows, councils, councils[0].width())

    def test_more_rows_and_one_to_five_councils_against_all_wishes(self):
        chance = random.Random(111)
        for many in (0, 1, 2, 3, 4, 5) * 3:
            width = chance.randint(1, 2)
            rows = [some_row(chance, width, 0, 5) for _ in range(chance.randint(5, 10))]
            self.check(rows, [some_council(chance, width) for _ in range(many)], width)

    def test_no_councils(self):
        chance = random.Random(112)
        for _ in range(15):
            width = chance.randint(1, 3)
            rows = [some_row(chance, width, 0, 3) for _ in range(chance.randint(0, 6))]
            self.check(rows, [], width)
        self.assertEqual(clauses([(0,), (4,), (9,)], []), [])
        self.assertEqual(clauses([(0, 3), (4, 4), (4, 3)], []), [[(0, "most", 0), (1, "least", 4)]])

    def test_empty_shelf(self):
        for councils in ([], [MEDIAN], [LEAST.part([0, 1, 0])] * 5):
            self.assertEqual(clauses([], councils), [[]])
            self.assertEqual(clauses([], councils, limit=1), [[]])

    def test_one_row_needs_no_clause(self):
        for row in ((0,), (3, 4), (5, -5, GREAT)):
            self.assertEqual(clauses([row], []), [])
            self.assertEqual(clauses([row] * 10, [Council([1, 1], [1] * len(row))]), [])

    def test_rows_that_are_told_twice(self):
        chance = random.Random(113)
        for _ in range(30):
            rows, councils = some_small_board(chance)
            if rows:
                self.assertEqual(clauses(rows + rows, councils), clauses(rows, councils))
                self.assertEqual(clauses(rows[::-1] + rows[:1], councils), clauses(rows, councils))

    def test_order_of_the_list_and_of_each_clause(self):
        chance = random.Random(114)
        most = 0
        for _ in range(40):
            rows = [some_row(chance, 3, 0, 9) for _ in range(10)]
            found = clauses(rows, [some_council(chance, 3) for _ in range(chance.randint(0, 2))])
            self.assertEqual(found, sorted(sorted(clause) for clause in found))
            self.assertEqual([type(found), {type(clause) for clause in found}], [list, {list}])
            self.assertEqual(len({tuple(clause) for clause in found}), len(found))
            most = max(most, len(found))
        self.assertGreater(most, 30)

    def test_both_ways_of_one_column(self):
        # Between two told entries of column 0 nothing is told with so great an entry in column 1.
        rows = [(0, 5), (1, 0), (2, 0), (3, 5)]
        self.assertIn([(0, "least", 1), (0, "most", 2), (1, "least", 5)], clauses(rows, []))
        self.assertIn([(0, "most", 0), (1, "most", 0)], clauses(rows, []))
        # A "least" above its "most" is met by no row either, but it is no clause.
        for clause in clauses(rows, []):
            values = {bound[:2]: bound[2] for bound in clause}
            self.assertLessEqual(values.get((0, "least"), 0), values.get((0, "most"), 3))

    def test_a_row_of_told_entries_can_be_made_if_it_meets_no_clause(self):
        chance = random.Random(115)
        made_rows = others = 0
        for _ in range(120):
            rows, councils = some_small_board(chance)
            width, made, found = councils[0].width(), plain_made(rows, councils), clauses(rows, councils)
            for row in itertools.product(*[told_entries(rows, column) for column in range(width)]):
                self.assertIs(row in made, not any(plain_meets(row, clause) for clause in found))
                self.assertIs(row in made, is_made(rows, councils, row))
                made_rows, others = made_rows + (row in made), others + (row not in made)
        self.assertGreater(min(made_rows, others), 100)

    def check_ten_rows(self, rows, councils):
        """Check the clauses one by one, that no other light wish is missing, and which rows can be made."""
        chance = random.Random(repr(rows))
        start = time.perf_counter()
        found = clauses(rows, councils)
        self.assertLess(time.perf_counter() - start, 5)
        for clause in found:
            self.assertTrue(is_clause(rows, councils, clause))
        told = [told_entries(rows, column) for column in range(3)]
        for _ in range(60):
            row = tuple(chance.choice(entries) for entries in told)
            self.assertIs(is_made(rows, councils, row), not any(plain_meets(row, clause) for clause in found))
        for _ in range(300):
            sides = chance.sample(TWELVE_SIDES[:6], chance.randint(1, 5))
            wish = sorted((*side, chance.choice(told[side[0]])) for side in sides)
            self.assertIs(is_clause(rows, councils, wish), wish in found)
        return len(found)

    def test_ten_rows_of_width_three(self):
        chance = random.Random(116)
        most = 0
        for many in (0, 0, 1, 1, 2, 3, 5):
            councils = [some_council(chance, 3) for _ in range(many)]
            for greatest in (1, 3, 9, GREAT):
                rows = [some_row(chance, 3, 0, greatest) for _ in range(10)]
                most = max(most, self.check_ten_rows(rows, councils))
            columns = [chance.sample(range(-GREAT, GREAT, GREAT // 50), 10) for _ in range(3)]
            most = max(most, self.check_ten_rows(list(zip(*columns)), councils))
        self.assertGreater(most, 100)

    def test_great_entries(self):
        rows = [(GREAT, -GREAT), (-GREAT, GREAT), (GREAT - 1, GREAT - 1)]
        for councils in ([], [MEDIAN], [LEAST], [LEAST.mirrored(), MEDIAN]):
            self.check(rows, councils, 2)

    def test_limit_at_above_and_below_the_number_of_clauses(self):
        chance = random.Random(117)
        for _ in range(60):
            rows, councils = some_small_board(chance)
            found = clauses(rows, councils)
            for limit in {1, 2, 3, max(1, len(found) - 1), max(1, len(found)), len(found) + 1, 400}:
                if len(found) > limit:
                    self.check_too_many(limit, rows, councils, limit=limit)
                else:
                    self.assertEqual(clauses(rows, councils, limit=limit), found)

    def test_limit_of_400_unless_another_is_passed(self):
        self.assertEqual(inspect.signature(clauses).parameters["limit"].default, 400)
        self.assertIs(inspect.signature(clauses).parameters["limit"].kind, inspect.Parameter.KEYWORD_ONLY)
        # More than ten rows: with ten, there are hardly ever so many clauses.
        chance = random.Random(118)
        rows = list(zip(*[chance.sample(range(20), 20) for _ in range(3)]))
        self.assertGreater(len(clauses(rows, [], limit=10 ** 6)), 400)
        self.check_too_many(400, rows, [])
        self.check_too_many(400, rows, [], limit=400)

    def test_made_rows_leave_the_clauses_as_they_are(self):
        chance = random.Random(119)
        for _ in range(60):
            rows, councils = some_small_board(chance)
            made = sorted(plain_made(rows, councils))
            if len(made) <= 10:
                self.assertEqual(clauses(made, councils), clauses(rows, councils))

    def test_same_question_again(self):
        rows = [(2, 0), (0, 2), (1, 1)]
        found = clauses(rows, [MEDIAN])
        kept = copy.deepcopy(found)
        for clause in found:
            clause.append(None)
        found.clear()
        clauses(rows, [LEAST])
        self.check_too_many(1, rows, [MEDIAN], limit=1)
        self.assertEqual(clauses(rows, [MEDIAN]), kept)
        self.assertEqual(rows, [(2, 0), (0, 2), (1, 1)])


if __name__ == "__main__":
    unittest.main()
