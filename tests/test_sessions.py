"""Promises [33], [34] and [35], and what [2] and [6] say of sessions."""

import itertools
import random
import unittest

from packedseats.bounds import meets
from packedseats.councils import Council
from packedseats.sessions import origins, settle, weight_missing
from tests.plain import GREAT, TWELVE_SIDES, check_examples, plain_settle, some_council


def some_rows(chance, council, span):
    """Return a row for each seat; seats may share one."""
    rows = [tuple([chance.randint(-span, span) for _ in range(council.width())]) for _ in range(len(council))]
    return [chance.choice(rows) for _ in rows] if chance.random() < 0.5 else rows


def least_v(weights, quota, entries):
    """Return the least integer v of [2], found by trying all of them."""
    for v in range(min(entries), max(entries) + 1):
        if sum([weight for weight, entry in zip(weights, entries) if entry <= v]) >= quota:
            return v
    raise ValueError("these entries never reach the quota")


class SessionsTest(unittest.TestCase):
    def test_examples(self):
        check_examples(self, """
>>> from packedseats.councils import Council
>>> from packedseats.sessions import settle
>>> settle(Council([1, 1, 1], [2, 2, 1]), [(1, 1, 0), (5, 0, 7), (0, 1, 7)])
(1, 1, 0)
>>> from packedseats.councils import Council
>>> from packedseats.sessions import weight_missing
>>> weight_missing(Council([2, 1, 1], [2]), [(4,), (0,), (9,)], (0, 'least', 4))
1
>>> from packedseats.councils import Council
>>> from packedseats.sessions import origins
>>> origins(Council([1, 1, 1], [2, 2, 1]), [(1, 1, 0), (5, 0, 7), (0, 1, 7)])
[[0], [0, 2], [0]]
""")

    def test_settle_against_a_plain_reading(self):
        chance = random.Random(36)
        for _ in range(300):
            council = some_council(chance, chance.randint(1, 6))
            rows = some_rows(chance, council, chance.choice([1, 5, GREAT]))
            kept = list(rows)
            made = settle(council, rows)
            self.assertIs(type(made), tuple)
            self.assertEqual(made, plain_settle(council.weights(), council.quotas(), rows))
            self.assertEqual(rows, kept)

    def test_settle_against_all_integers(self):
        chance = random.Random(37)
        for _ in range(100):
            council = some_council(chance, 3)
            rows = some_rows(chance, council, 6)
            for column, quota in enumerate(council.quotas()):
                expected = least_v(council.weights(), quota, [row[column] for row in rows])
                self.assertEqual(settle(council, rows)[column], expected)

    def test_unequal_weights_and_every_quota(self):
        weights, rows = [3, 1, 2], [(5,), (-1,), (2,)]
        made = [settle(Council(weights, [quota]), rows) for quota in range(1, 7)]
        self.assertEqual(made, [(-1,), (2,), (2,), (5,), (5,), (5,)])

    def test_quota_one_and_quota_of_the_total(self):
        chance = random.Random(38)
        for _ in range(50):
            weights = [chance.randint(1, 9) for _ in range(chance.randint(2, 7))]
            council = Council(weights, [1, sum(weights)])
            rows = some_rows(chance, council, 9)
            self.assertEqual(settle(council, rows), (min([row[0] for row in rows]), max([row[1] for row in rows])))

    def test_great_entries(self):
        rows = [(GREAT, -GREAT), (-GREAT, GREAT), (GREAT - 1, 1 - GREAT)]
        self.assertEqual(settle(Council([1, 1, 1], [2, 2]), rows), (GREAT - 1, 1 - GREAT))
        self.assertEqual(settle(Council([1, 1, 1], [3, 1]), rows), (GREAT, -GREAT))
        self.assertEqual(weight_missing(Council([1, 2, 4], [3, 1]), rows, (0, "least", GREAT)), 6)
        self.assertEqual(weight_missing(Council([1, 2, 4], [3, 1]), rows, (1, "most", -GREAT)), 6)

    def test_one_row_for_all_seats(self):
        for seats in range(2, 8):
            council = Council(list(range(1, seats + 1)), [1, seats, 3])
            row = (4, -4, 0)
            self.assertEqual(settle(council, [row] * seats), row)
            self.assertEqual(origins(council, [row] * seats), [list(range(seats))] * 3)

    def test_weight_missing_for_both_ways(self):
        council, rows = Council([1, 2, 4, 8], [5]), [(0,), (1,), (2,), (1,)]
        self.assertEqual([weight_missing(council, rows, (0, "least", v)) for v in range(4)], [0, 1, 11, 15])
        self.assertEqual([weight_missing(council, rows, (0, "most", v)) for v in range(-1, 3)], [15, 14, 4, 0])

    def test_weight_missing_in_each_column(self):
        council = Council([5, 1], [1] * 6)
        rows = [(0, 1, 2, 3, 4, 5), (9, 9, 9, 9, 9, 9)]
        self.assertEqual([weight_missing(council, rows, (k, "least", k + 1)) for k in range(6)], [5] * 6)
        self.assertEqual([weight_missing(council, rows, (k, "most", k)) for k in range(6)], [1] * 6)

    def test_a_made_row_meets_a_bound_by_the_weight_that_misses_it(self):
        chance = random.Random(39)
        for _ in range(300):
            council = some_council(chance, chance.randint(1, 6))
            rows = some_rows(chance, council, chance.choice([1, 4]))
            made = settle(council, rows)
            for side in TWELVE_SIDES[:2 * council.width()]:
                for value in range(-5, 6):
                    bound = (*side, value)
                    missing = weight_missing(council, rows, bound)
                    plain = [w for w, row in zip(council.weights(), rows) if not meets(row, [bound])]
                    self.assertEqual(missing, sum(plain))
                    self.assertIs(meets(made, [bound]), missing <= council.allowance(side))

    def test_origins_against_a_plain_reading(self):
        chance = random.Random(40)
        for _ in range(200):
            council = some_council(chance, chance.randint(1, 6))
            rows = some_rows(chance, council, 2)
            made = plain_settle(council.weights(), council.quotas(), rows)
            expected = [[seat for seat in range(len(council)) if rows[seat][column] == made[column]]
                        for column in range(council.width())]
            self.assertEqual(origins(council, rows), expected)
            self.assertTrue(all(origins(council, rows)))

    def test_all_small_sessions(self):
        council = Council([2, 1, 1], [3])
        for entries in itertools.product(range(4), repeat=3):
            rows = [(entry,) for entry in entries]
            self.assertEqual(settle(council, rows), (least_v([2, 1, 1], 3, entries),))

    def test_returned_lists_are_new(self):
        council, rows = Council([1, 1], [1, 2]), [(1, 1), (1, 1)]
        found = origins(council, rows)
        self.assertIsNot(found[0], found[1])
        found[0].append("more")
        found.pop()
        self.assertEqual(origins(council, rows), [[0, 1], [0, 1]])
        self.assertEqual(rows, [(1, 1), (1, 1)])
        self.assertEqual(council, Council([1, 1], [1, 2]))


if __name__ == "__main__":
    unittest.main()
