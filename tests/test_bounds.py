"""Promises [22], [23] and [24], and the definitions of [2] behind them."""

import itertools
import random
import unittest

from packedseats.bounds import exactly, joined, meets, mirrored, missed, sides_of
from packedseats.kinds import is_wish
from tests.plain import GREAT, TWELVE_SIDES, check_examples


def plain_misses(row, bound):
    column, way, value = bound
    return row[column] < value if way == "least" else row[column] > value


def some_wish(chance, width, many):
    """Return a wish with so many bounds, in any order."""
    sides = chance.sample(TWELVE_SIDES[:2 * width], many)
    return [(*side, chance.randint(-2, 2)) for side in sides]


class MeetsTest(unittest.TestCase):
    def test_examples(self):
        check_examples(self, """
>>> from packedseats.bounds import meets, missed
>>> [meets((1, 4), [(1, 'most', 4)]), missed((1, 4), [(1, 'least', 5), (0, 'most', 0), (0, 'least', 1)])]
[True, [(0, 'most', 0), (1, 'least', 5)]]
""")

    def test_entries_beside_the_value(self):
        for value in (-7, -1, 0, 1, 7, GREAT - 1, 1 - GREAT):
            for column in range(6):
                least, most = (column, "least", value), (column, "most", value)
                for entry in (value - 1, value, value + 1):
                    row = (0,) * column + (entry,) + (0,) * (5 - column)
                    self.assertIs(meets(row, [least]), entry >= value)
                    self.assertIs(meets(row, [most]), entry <= value)
                    self.assertEqual(missed(row, [least]), [least] if entry < value else [])
                    self.assertEqual(missed(row, [most]), [most] if entry > value else [])

    def test_ends_of_the_values(self):
        self.assertIs(meets((GREAT, -GREAT), [(0, "least", GREAT), (1, "most", -GREAT)]), True)
        self.assertEqual(missed((-GREAT,), [(0, "least", GREAT)]), [(0, "least", GREAT)])

    def test_wishes_in_any_order(self):
        chance = random.Random(22)
        for _ in range(400):
            width = chance.randint(1, 6)
            wish = some_wish(chance, width, chance.randint(0, 2 * width))
            row = tuple([chance.randint(-2, 2) for _ in range(width)])
            expected = sorted([bound for bound in wish if plain_misses(row, bound)])
            kept = list(wish)
            self.assertEqual(missed(row, wish), expected)
            self.assertIs(meets(row, wish), not expected)
            self.assertEqual(wish, kept)

    def test_twelve_bounds_in_every_turn(self):
        wish = [(*side, 1 if side[1] == "least" else -1) for side in TWELVE_SIDES]
        for turn in range(12):
            self.assertEqual(missed((0,) * 6, wish[turn:] + wish[:turn]), wish)
            self.assertEqual(missed((0,) * 6, (wish[turn:] + wish[:turn])[::-1]), wish)
            self.assertIs(meets((0,) * 6, wish[turn:turn + 1]), False)

    def test_one_missed_bound_is_enough(self):
        wish = [(*side, 0) for side in TWELVE_SIDES]
        self.assertIs(meets((0,) * 6, wish), True)
        for column in range(6):
            row = (0,) * column + (1,) + (0,) * (5 - column)
            self.assertIs(meets(row, wish), False)
            self.assertEqual(missed(row, wish), [(column, "most", 0)])

    def test_the_empty_wish(self):
        self.assertIs(meets((5,), []), True)
        self.assertEqual(missed((5,), []), [])

    def test_the_returned_list_is_new(self):
        row, wish = (0, 0), [(1, "least", 1), (0, "least", 1)]
        missed(row, wish).clear()
        self.assertEqual(wish, [(1, "least", 1), (0, "least", 1)])
        again = missed(row, wish)
        again.append("more")
        self.assertEqual(missed(row, wish), [(0, "least", 1), (1, "least", 1)])
        empty = []
        missed(row, empty).append("more")
        self.assertEqual([empty, missed(row, empty)], [[], []])


class ExactlyTest(unittest.TestCase):
    def test_examples(self):
        check_examples(self, """
>>> from packedseats.bounds import exactly, sides_of
>>> [exactly((3,)), sides_of([(1, 'least', 5), (0, 'most', 0)])]
[[(0, 'least', 3), (0, 'most', 3)], [(0, 'most'), (1, 'least')]]
""")

    def test_both_bounds_of_each_column(self):
        chance = random.Random(23)
        for width in range(1, 7):
            row = tuple([chance.choice((0, 1, -1, GREAT, -GREAT)) for _ in range(width)])
            expected = []
            for column in range(width):
                expected += [(column, "least", row[column]), (column, "most", row[column])]
            self.assertEqual(exactly(row), expected)
            self.assertIs(is_wish(exactly(row), width), True)

    def test_only_the_row_meets_it(self):
        rows = list(itertools.product((-1, 0, 1), repeat=3))
        for row in rows:
            self.assertEqual([other for other in rows if meets(other, exactly(row))], [row])

    def test_sides_in_ascending_order(self):
        chance = random.Random(24)
        for many in range(13):
            wish = some_wish(chance, 6, many)
            kept = list(wish)
            self.assertEqual(sides_of(wish), sorted([bound[:2] for bound in wish]))
            self.assertEqual(wish, kept)
        self.assertEqual(sides_of([(*side, 0) for side in TWELVE_SIDES[::-1]]), TWELVE_SIDES)
        self.assertEqual(sides_of([]), [])

    def test_returned_lists_are_new(self):
        exactly((1,)).clear()
        self.assertEqual(exactly((1,)), [(0, "least", 1), (0, "most", 1)])
        wish = [(0, "most", 1)]
        sides_of(wish).append("more")
        self.assertEqual([wish, sides_of(wish)], [[(0, "most", 1)], [(0, "most")]])


class JoinedTest(unittest.TestCase):
    def test_examples(self):
        check_examples(self, """
>>> from packedseats.bounds import joined, mirrored
>>> [joined([(0, 'least', 1)], [(0, 'least', 3), (1, 'most', 2)]), mirrored([(0, 'least', 1)])]
[[(0, 'least', 3), (1, 'most', 2)], [(0, 'most', -1)]]
""")

    def test_the_stricter_bound(self):
        for one, other in ((1, 3), (-3, -1), (-2, 2), (0, 0), (-GREAT, GREAT)):
            for first, second in ((one, other), (other, one)):
                self.assertEqual(joined([(2, "least", first)], [(2, "least", second)]), [(2, "least", other)])
                self.assertEqual(joined([(2, "most", first)], [(2, "most", second)]), [(2, "most", one)])

    def test_wishes_that_contradict_each_other(self):
        for one, other in (([(0, "most", 1)], [(0, "least", 2)]), ([(0, "least", 2)], [(0, "most", 1)])):
            self.assertEqual(joined(one, other), [(0, "least", 2), (0, "most", 1)])

    def test_exactly_the_rows_that_meet_both(self):
        chance = random.Random(25)
        rows = list(itertools.product(range(-3, 4), repeat=2))
        for _ in range(150):
            one = some_wish(chance, 2, chance.randint(0, 4))
            other = some_wish(chance, 2, chance.randint(0, 4))
            kept = [list(one), list(other)]
            both = joined(one, other)
            self.assertEqual(joined(other, one), both)
            self.assertEqual(both, sorted(both))
            self.assertEqual(sides_of(both), sorted(set(sides_of(one) + sides_of(other))))
            self.assertIs(is_wish(both, 2), True)
            for row in rows:
                self.assertIs(meets(row, both), meets(row, one) and meets(row, other))
            self.assertEqual([one, other], kept)

    def test_joined_with_the_empty_wish_and_with_itself(self):
        wish = [(*side, 3) for side in TWELVE_SIDES[::-1]]
        for both in (joined(wish, []), joined([], wish), joined(wish, wish)):
            self.assertEqual(both, wish[::-1])
        self.assertEqual(joined([], []), [])

    def test_mirrored(self):
        chance = random.Random(26)
        rows = list(itertools.product(range(-3, 4), repeat=2))
        for _ in range(100):
            wish = some_wish(chance, 2, chance.randint(0, 4))
            kept = list(wish)
            turned = mirrored(wish)
            self.assertEqual(turned, sorted(turned))
            self.assertEqual(len(turned), len(wish))
            self.assertEqual(mirrored(turned), sorted(wish))
            for row in rows:
                self.assertIs(meets((-row[0], -row[1]), turned), meets(row, wish))
            self.assertEqual(wish, kept)

    def test_mirrored_to_the_letter(self):
        wish = [(1, "most", -GREAT), (0, "most", 0), (1, "least", 5), (0, "least", -2)]
        self.assertEqual(mirrored(wish), [(0, "least", 0), (0, "most", 2), (1, "least", GREAT), (1, "most", -5)])
        self.assertEqual(mirrored([]), [])

    def test_returned_lists_are_new(self):
        wish = [(0, "least", 1)]
        joined(wish, []).append("more")
        joined([], wish).append("more")
        joined(wish, wish).append("more")
        mirrored(wish).append("more")
        self.assertEqual(wish, [(0, "least", 1)])
        self.assertEqual(joined(wish, []), [(0, "least", 1)])
        self.assertEqual(mirrored(wish), [(0, "most", -1)])


if __name__ == "__main__":
    unittest.main()
