"""Promises [30], [31] and [32], and what [2], [3] and [4] say of councils."""

import copy
import itertools
import random
import unittest

from packedseats.councils import Council, difference
from packedseats.errors import Wrong
from packedseats.sessions import settle
from tests.plain import TWELVE_SIDES, check_examples, odd_values, plain_allowance, plain_settle, some_council

MILLION = 10 ** 6
WRONG_LISTS = [
    [], [True, True], [1, True], [False, 1], [1, None], [1, "1"], [1, [1]], [1, (1,)], [[1, 1]], [(1, 1)], [0, 1], [1, 0],
    [-1, 3], [1, -1], [1, 10 ** 39], [1, -(10 ** 39)], (1, 1), "11", b"11", {0: 1, 1: 1}, {1, 2}, range(1, 3), 1,
]


def some_rows(chance, council):
    return [tuple([chance.randint(-3, 3) for _ in range(council.width())]) for _ in range(len(council))]


class CouncilTest(unittest.TestCase):
    def check_wrong(self, place, weights, quotas):
        with self.subTest(weights=repr(weights)[:80], quotas=repr(quotas)[:80]):
            with self.assertRaises(Wrong) as caught:
                Council(weights, quotas)
            self.assertIs(type(caught.exception.place), int)
            self.assertEqual(caught.exception.place, place)

    def test_examples(self):
        check_examples(self, """
>>> from packedseats.councils import Council
>>> council = Council([2, 1, 1], [2, 4])
>>> [council.total(), council.width(), council.allowance((0, 'least')), council.allowance((1, 'most')), council]
[4, 2, 1, 0, Council([2, 1, 1], [2, 4])]
>>> from packedseats.councils import Council
>>> Council([1, 1], [3])
raises Wrong(1)
""")

    def test_the_ends_of_the_ranges(self):
        for weights in ([1, 1], [1] * 7, [MILLION] * 2, [MILLION] * 7, [1, MILLION], [MILLION, 1, 2]):
            total = sum(weights)
            for quotas in ([1], [total], [1] * 6, [total] * 6, [total, 1, (total + 1) // 2]):
                council = Council(weights, quotas)
                self.assertEqual(council.weights(), weights)
                self.assertEqual(council.quotas(), quotas)
                self.assertEqual(council.total(), total)
                self.assertEqual(council.width(), len(quotas))
                self.assertEqual(len(council), len(weights))

    def test_wrong_weights(self):
        beyond = [[1], [MILLION], [1] * 8, [MILLION + 1, 1], [1, MILLION + 1], [1] * 30000, [2, 1, 0]]
        for weights in beyond + WRONG_LISTS + odd_values():
            self.check_wrong(0, weights, [1])

    def test_wrong_quotas(self):
        beyond = [[1] * 7, [4], [1, 4], [1, 1, 1, 1, 1, 4], [0], [-1], [1] * 30000, [MILLION], [True], [False], ["1"]]
        for quotas in beyond + WRONG_LISTS + odd_values():
            self.check_wrong(1, [2, 1], quotas)
        self.check_wrong(1, [MILLION] * 7, [7 * MILLION + 1])

    def test_the_first_wrong_argument_tells_the_place(self):
        for weights in [[1], [1] * 8, [0, 1], [True, 1], (1, 1), None, "11", {1: 1}]:
            for quotas in [[], [0], [9], [True], (1,), None, "1"]:
                self.check_wrong(0, weights, quotas)
        for quotas in [[], [3], [True], (1,), None]:
            self.check_wrong(1, [1, 1], quotas)

    def test_passed_arguments_are_not_changed(self):
        for weights, quotas in (([2, 1, [3]], [1]), ([2, 1], [3, [4], 0]), ([2, 1], [3, 1])):
            before = copy.deepcopy([weights, quotas])
            try:
                Council(weights, quotas)
            except Wrong:
                pass
            self.assertEqual([weights, quotas], before)

    def test_lists_are_copied(self):
        weights, quotas = [2, 1, 1], [2, 4]
        council = Council(weights, quotas)
        weights[0] = 7
        quotas.append(1)
        council.weights().clear()
        council.quotas()[0] = 9
        self.assertEqual([council.weights(), council.quotas()], [[2, 1, 1], [2, 4]])
        self.assertEqual([council.total(), council.width(), len(council)], [4, 2, 3])
        self.assertEqual(repr(council), "Council([2, 1, 1], [2, 4])")
        self.assertIsNot(council.weights(), council.weights())
        self.assertIsNot(council.quotas(), council.quotas())

    def test_arguments_can_be_passed_by_name(self):
        self.assertEqual(Council(quotas=[2], weights=[1, 2]), Council([1, 2], [2]))

    def test_equality(self):
        council = Council([2, 1, 1], [2, 4])
        self.assertIs(council == Council([2, 1, 1], [2, 4]), True)
        self.assertIs(council == council, True)
        self.assertIs(council != Council([2, 1, 1], [2, 4]), False)
        others = [Council([2, 1, 2], [2, 4]), Council([2, 1, 1], [2, 3]), Council([1, 1, 2], [2, 4]),
                  Council([2, 1, 1], [4, 2]), Council([2, 1, 1], [2]), Council([2, 1, 1, 1], [2, 4]),
                  Council([4, 2, 2], [4, 8])]
        things = [([2, 1, 1], [2, 4]), [[2, 1, 1], [2, 4]], [2, 1, 1], "Council([2, 1, 1], [2, 4])"]
        for other in others + things + odd_values():
            self.assertIs(council == other, False)
            self.assertIs(other == council, False)
            self.assertIs(council != other, True)

    def test_length_and_repr(self):
        for seats in range(2, 8):
            self.assertEqual(len(Council([3] * seats, [1])), seats)
        self.assertEqual(repr(Council([1, MILLION], [1])), "Council([1, 1000000], [1])")
        self.assertEqual(str(Council([3, 2], [1, 5, 2])), "Council([3, 2], [1, 5, 2])")

    def test_allowance_of_each_side(self):
        chance = random.Random(30)
        for _ in range(50):
            council = some_council(chance, 6)
            for side in TWELVE_SIDES:
                expected = plain_allowance(council.weights(), council.quotas(), side)
                self.assertEqual(council.allowance(side), expected)
        council = Council([3, 4], [1, 7, 3])
        self.assertEqual([council.allowance(side) for side in TWELVE_SIDES[:6]], [0, 6, 6, 0, 2, 4])


class MirroredAndPartTest(unittest.TestCase):
    def test_examples(self):
        check_examples(self, """
>>> from packedseats.councils import Council
>>> council = Council([2, 1, 1], [2, 4])
>>> [council.mirrored(), council.part([1])]
[Council([2, 1, 1], [3, 1]), Council([2, 1, 1], [4])]
""")

    def test_mirrored_makes_the_mirrored_row(self):
        chance = random.Random(31)
        for _ in range(200):
            council = some_council(chance, chance.randint(1, 6))
            rows = some_rows(chance, council)
            made = settle(council.mirrored(), [tuple([-entry for entry in row]) for row in rows])
            self.assertEqual(made, tuple([-entry for entry in settle(council, rows)]))

    def test_mirrored_twice(self):
        chance = random.Random(32)
        for _ in range(50):
            council = some_council(chance, chance.randint(1, 6))
            kept = Council(council.weights(), council.quotas())
            self.assertEqual(council.mirrored().mirrored(), council)
            self.assertEqual(council.mirrored().weights(), council.weights())
            self.assertEqual(council, kept)

    def test_mirrored_swaps_the_allowances(self):
        council = Council([5, 1, 2], [1, 8, 3])
        self.assertEqual(council.mirrored().quotas(), [8, 1, 6])
        for column in range(3):
            self.assertEqual(council.mirrored().allowance((column, "least")), council.allowance((column, "most")))
            self.assertEqual(council.mirrored().allowance((column, "most")), council.allowance((column, "least")))

    def test_parts_make_the_same_entries(self):
        chance = random.Random(33)
        for many in range(1, 7):
            for _ in range(20):
                council = some_council(chance, 6)
                columns = chance.sample(range(6), many)
                kept = list(columns)
                part = council.part(columns)
                self.assertEqual(columns, kept)
                self.assertEqual(part.width(), many)
                self.assertEqual(part.quotas(), [council.quotas()[column] for column in columns])
                self.assertEqual(part.weights(), council.weights())
                rows = some_rows(chance, council)
                made = settle(council, rows)
                cut = [tuple([row[column] for column in columns]) for row in rows]
                self.assertEqual(settle(part, cut), tuple([made[column] for column in columns]))

    def test_what_is_returned_is_independent(self):
        council = Council([2, 1], [1, 3])
        part, turned = council.part([0, 1]), council.mirrored()
        part.weights().clear()
        turned.quotas().clear()
        self.assertEqual([part, turned, council], [council, Council([2, 1], [3, 1]), Council([2, 1], [1, 3])])


def plain_difference(one, other):
    seats = range(len(one))
    groups = sorted([list(group) for many in range(len(one) + 1) for group in itertools.combinations(seats, many)])
    for column in range(one.width()):
        for group in groups:
            enough = [sum([council.weights()[seat] for seat in group]) >= council.quotas()[column]
                      for council in (one, other)]
            if enough[0] != enough[1]:
                return (column, group)
    return None


class DifferenceTest(unittest.TestCase):
    def test_examples(self):
        check_examples(self, """
>>> from packedseats.councils import Council, difference
>>> [difference(Council([1, 1, 1], [2]), Council([5, 3, 4], [6])), difference(Council([1, 1, 1], [2]), Council([1, 1, 2], [2]))]
[None, (0, [2])]
""")

    def test_same_rows_though_the_numbers_differ(self):
        for one, other in [
            (Council([1, 1, 1], [2, 3, 1]), Council([10, 9, 8], [11, 27, 8])),
            (Council([1] * 7, [4] * 6), Council([MILLION] * 7, [4 * MILLION] * 6)),
            (Council([9, 1, 1], [9]), Council([3, 1, 1], [3])),
            (Council([2, 1], [2]), Council([2, 1], [2])),
        ]:
            self.assertIsNone(difference(one, other))
            self.assertIsNone(difference(other, one))

    def test_the_least_column_and_the_first_list(self):
        one = Council([1, 1, 1], [2, 1, 2])
        self.assertEqual(difference(one, Council([1, 1, 1], [2, 2, 3])), (1, [0]))
        self.assertEqual(difference(one, Council([1, 1, 1], [2, 1, 3])), (2, [0, 1]))
        self.assertEqual(difference(Council([1, 2, 3], [3]), Council([2, 1, 3], [3])), None)
        self.assertEqual(difference(Council([1, 2, 3], [2]), Council([2, 1, 3], [2])), (0, [0]))
        self.assertEqual(difference(Council([1, 1, 1], [1]), Council([1, 1, 1], [3])), (0, [0]))
        self.assertEqual(difference(Council([1, 1, 1], [2]), Council([1, 1, 1], [3])), (0, [0, 1]))
        self.assertEqual(difference(Council([1, 1, 2], [2]), Council([1, 1, 1], [2])), (0, [2]))
        last = Council([1] * 7, [4, 4, 4, 4, 4, 7])
        self.assertEqual(difference(last, Council([1] * 7, [4] * 5 + [6])), (5, [0, 1, 2, 3, 4, 5]))

    def test_against_a_plain_reading(self):
        chance = random.Random(34)
        for _ in range(300):
            seats, width = chance.randint(2, 7), chance.choice([1, 2, 6])
            one = some_council(chance, width, seats, 4)
            other = some_council(chance, width, seats, 4)
            if chance.random() < 0.5:
                quotas = one.quotas()
                quotas[chance.randrange(width)] = chance.randint(1, one.total())
                other = Council(one.weights(), quotas)
            self.assertEqual(difference(one, other), plain_difference(one, other))

    def test_none_if_and_only_if_all_sessions_make_the_same(self):
        chance = random.Random(35)
        for _ in range(60):
            seats = chance.randint(2, 4)
            one, other = some_council(chance, 1, seats, 3), some_council(chance, 1, seats, 3)
            sessions = [[(entry,) for entry in entries] for entries in itertools.product(range(3), repeat=seats)]
            same = all([plain_settle(one.weights(), one.quotas(), rows) == settle(other, rows) for rows in sessions])
            self.assertIs(difference(one, other) is None, same)

    def test_seven_seats_and_six_columns(self):
        one = Council([7, 6, 5, 4, 3, 2, 1], [14] * 6)
        other = Council([7, 6, 5, 4, 3, 2, 1], [14] * 5 + [15])
        self.assertEqual(difference(one, other), (5, [0, 1, 6]))
        self.assertEqual(plain_difference(one, other), (5, [0, 1, 6]))

    def test_the_returned_list_is_new(self):
        one, other = Council([1, 1], [1]), Council([1, 1], [2])
        difference(one, other)[1].clear()
        self.assertEqual(difference(one, other), (0, [0]))


if __name__ == "__main__":
    unittest.main()
