"""Promises [40] to [43], and what [2] and [6] say of packings."""

import copy
import itertools
import random
import unittest

from packedseats.councils import Council
from packedseats.packings import are_loads, is_packing, loads, packing
from tests.plain import (
    GREAT, TWELVE_SIDES, check_examples, odd_values, plain_allowance, plain_is_heavy, some_council, subsets_of,
)

MILLION = 10 ** 6
DICTATOR = Council([MILLION, 1, 1, 1, 1, 1, 1], [MILLION] * 6)
MEDIAN = Council([1] * 7, [4] * 6)


def some_sides(chance, width):
    """Return some different sides of the width, in any order."""
    return chance.sample(TWELVE_SIDES[:2 * width], chance.randint(0, 2 * width))


def plain_is_packing(council, sides, indexes):
    for at, side in enumerate(sides):
        inside = [weight for weight, index in zip(council.weights(), indexes) if index == at]
        if sum(inside) > plain_allowance(council.weights(), council.quotas(), side):
            return False
    return True


class PackingTest(unittest.TestCase):
    def check(self, council, sides):
        """Check the packing of the sides, or that there is none."""
        kept = list(sides)
        found = packing(council, sides)
        if plain_is_heavy(council, sides):
            self.assertIs(type(found), list)
            self.assertEqual([type(index) for index in found], [int] * len(council))
            self.assertTrue(all(0 <= index < len(sides) for index in found))
            self.assertTrue(plain_is_packing(council, sides, found))
            self.assertIs(is_packing(council, sides, found), True)
        else:
            self.assertIsNone(found)
        self.assertEqual(sides, kept)

    def test_examples(self):
        check_examples(self, """
>>> from packedseats.councils import Council
>>> from packedseats.packings import packing
>>> council = Council([2, 1, 1], [2, 2])
>>> [packing(council, [(0, 'least'), (1, 'least')]), packing(council, [(0, 'most'), (1, 'least'), (1, 'most')]) is None]
[None, False]
>>> from packedseats.councils import Council
>>> from packedseats.packings import is_packing
>>> council = Council([2, 1, 1], [2, 2])
>>> [is_packing(council, [(0, 'most'), (1, 'most')], [0, 1, 1]), is_packing(council, [(0, 'most'), (1, 'most')], [0, 0, 1])]
[True, False]
""")

    def test_against_all_ways(self):
        chance = random.Random(41)
        for _ in range(600):
            width = chance.randint(1, 6)
            self.check(some_council(chance, width), some_sides(chance, width))

    def test_small_cases_against_each_single_way(self):
        chance = random.Random(42)
        for _ in range(150):
            council = some_council(chance, 2, chance.randint(2, 4), chance.choice([2, 6]))
            for sides in subsets_of(TWELVE_SIDES[:4]):
                ways = itertools.product(range(len(sides)), repeat=len(council))
                right = [list(way) for way in ways if plain_is_packing(council, sides, way)]
                found = packing(council, sides)
                self.assertTrue(found in right if right else found is None)

    def test_no_sides(self):
        for council in (MEDIAN, DICTATOR, Council([1, 1], [1])):
            self.assertIsNone(packing(council, []))
            self.assertIs(is_packing(council, [], []), False)
            self.assertIs(is_packing(council, [], [0] * len(council)), False)

    def test_one_side_and_both_sides_of_one_column(self):
        chance = random.Random(43)
        for _ in range(100):
            council = some_council(chance, 6)
            for column in range(6):
                both = [(column, "most"), (column, "least")]
                for sides in (both, both[:1], both[1:]):
                    self.assertIsNone(packing(council, sides))

    def test_twelve_sides_and_seven_seats(self):
        chance = random.Random(44)
        self.assertIsNone(packing(DICTATOR, TWELVE_SIDES))
        self.check(MEDIAN, TWELVE_SIDES)
        for _ in range(100):
            council = some_council(chance, 6, 7, chance.choice([1, 3, 50, MILLION]))
            self.check(council, chance.sample(TWELVE_SIDES, 12))

    def test_a_packing_that_just_fits(self):
        council = Council([4, 3, 3, 2, 2, 2, 1], [7, 6, 7])
        sides = [(2, "least"), (1, "least"), (0, "least")]
        self.assertEqual([council.allowance(side) for side in sides], [6, 5, 6])
        self.check(council, sides)
        self.assertIsNotNone(packing(council, sides))
        self.assertIsNone(packing(Council([4, 3, 3, 2, 2, 2, 1], [7, 6, 6]), sides))
        greatest = Council([MILLION] * 7, [3 * MILLION + 1, 3 * MILLION + 1, 2 * MILLION])
        self.assertIsNotNone(packing(greatest, [(0, "least"), (1, "least"), (2, "least")]))
        lesser = Council([MILLION] * 7, [3 * MILLION + 1, 3 * MILLION, 2 * MILLION])
        self.assertIsNone(packing(lesser, [(0, "least"), (1, "least"), (2, "least")]))

    def test_subsets_of_light_sides_are_light(self):
        chance = random.Random(45)
        for _ in range(40):
            council = some_council(chance, 3)
            for sides in subsets_of(TWELVE_SIDES[:6]):
                if packing(council, sides) is None:
                    for at in range(len(sides)):
                        self.assertIsNone(packing(council, sides[:at] + sides[at + 1:]))

    def test_is_packing_against_each_single_way(self):
        council, sides = Council([3, 2, 2, 1], [4, 5, 6]), [(2, "most"), (0, "least"), (1, "most")]
        self.assertEqual([council.allowance(side) for side in sides], [2, 3, 3])
        answers = []
        for way in itertools.product(range(3), repeat=4):
            answers.append(is_packing(council, sides, list(way)))
            self.assertIs(answers[-1], plain_is_packing(council, sides, way))
        self.assertEqual(set(answers), {True, False})

    def test_is_packing_with_wrong_indexes(self):
        council, sides = Council([2, 1, 1], [2, 2]), [(0, "most"), (1, "most")]
        self.assertIs(is_packing(council, sides, [1, 0, 0]), True)
        wrong = [
            [0, 1], [0, 1, 1, 1], [], [0, 1, 2], [0, 1, -1], [-2, 1, 1], [0, 1, True], [False, 1, 1], (0, 1, 1),
            [[0, 1, 1]], [0, 1, None], [0, 1, "1"], [0, 1, [1]], [0, 1, (1,)], "011", b"011", {0: 0, 1: 1, 2: 1},
            {0, 1}, [0, 1, 10 ** 39], [0, 1, -(10 ** 39)], [0] * 30000, None, 0, {0: [0, 1, 1]}, range(3),
        ]
        for thing in wrong + odd_values():
            with self.subTest(thing=repr(thing)[:80]):
                self.assertIs(is_packing(council, sides, thing), False)

    def test_what_is_returned_or_passed_is_not_kept(self):
        council, sides = Council([2, 1, 1], [2, 2]), [(0, "most"), (1, "most")]
        first = packing(council, sides)
        kept = list(first)
        first.clear()
        self.assertEqual(packing(council, sides), kept)
        self.assertIs(is_packing(council, sides, kept), True)
        self.assertEqual([kept, sides], [packing(council, sides), [(0, "most"), (1, "most")]])
        self.assertEqual(council, Council([2, 1, 1], [2, 2]))


def fits(load, allowances):
    return len(load) <= len(allowances) and all(item <= room for item, room in zip(load, allowances))


def grown(load, weight):
    """Return the loads that [42] lets come from a load, each with its items in descending order."""
    found = [tuple(sorted(load + (weight,), reverse=True))]
    for at in range(len(load)):
        items = list(load)
        items[at] += weight
        found.append(tuple(sorted(items, reverse=True)))
    return found


def plain_table(council, sides):
    """Return the list of lists of loads of [42], whether or not the last one is empty."""
    weights = council.weights()
    allowances = sorted([plain_allowance(weights, council.quotas(), side) for side in sides], reverse=True)
    table = [[()]]
    for weight in weights:
        found = [load for earlier in table[-1] for load in grown(earlier, weight)]
        table.append(sorted({load for load in found if fits(load, allowances)}))
    return table


class LoadsTest(unittest.TestCase):
    def test_examples(self):
        check_examples(self, """
>>> from packedseats.councils import Council
>>> from packedseats.packings import loads
>>> loads(Council([1, 1, 1], [2, 2]), [(0, 'least'), (1, 'least')])
[[()], [(1,)], [(1, 1)], []]
>>> from packedseats.councils import Council
>>> from packedseats.packings import are_loads
>>> are_loads(Council([1, 1, 1], [2, 2]), [(0, 'least'), (1, 'least')], [[()], [(1,)], [], []])
False
""")

    def test_level_by_level_against_a_plain_reading(self):
        chance = random.Random(46)
        for _ in range(400):
            width = chance.randint(1, 6)
            council, sides = some_council(chance, width), some_sides(chance, width)
            kept = list(sides)
            table = plain_table(council, sides)
            self.assertEqual(loads(council, sides), None if table[-1] else table)
            self.assertIs(loads(council, sides) is None, plain_is_heavy(council, sides))
            self.assertIs(are_loads(council, sides, table), not table[-1])
            self.assertEqual(sides, kept)

    def test_a_table_by_hand(self):
        council, sides = Council([2, 1, 2, 3], [4, 3]), [(1, "least"), (0, "least")]
        self.assertEqual([council.allowance(side) for side in sides], [2, 3])
        self.assertEqual(loads(council, sides), [[()], [(2,)], [(2, 1), (3,)], [(3, 2)], []])

    def test_equal_allowances(self):
        council = Council([2, 2, 2, 2, 1], [3, 3, 3])
        sides = [(column, "least") for column in range(3)]
        table = loads(council, sides)
        self.assertEqual(table, [[()], [(2,)], [(2, 2)], [(2, 2, 2)], [], []])
        self.assertIs(are_loads(council, sides, table), True)
        self.assertEqual(len({id(level) for level in table}), 6)

    def test_allowances_of_zero(self):
        council = Council([1, 2], [1, 3, 2])
        for sides in ([(0, "least")], [(0, "least"), (1, "most")], [(1, "most")]):
            self.assertEqual(loads(council, sides), [[()], [], []])
        self.assertEqual(loads(council, [(0, "least"), (2, "least"), (1, "most")]), [[()], [(1,)], []])

    def test_no_sides(self):
        self.assertEqual(loads(Council([1, 2, 3], [1]), []), [[()], [], [], []])
        self.assertIs(are_loads(Council([1, 2, 3], [1]), [], [[()], [], [], []]), True)
        self.assertIs(are_loads(Council([1, 2, 3], [1]), [], [[], [], [], []]), False)

    def test_none_where_the_last_list_is_not_empty(self):
        council, sides = Council([2, 1, 1], [2, 2]), [(0, "most"), (1, "least"), (1, "most")]
        self.assertIsNone(loads(council, sides))
        self.assertIs(are_loads(council, sides, plain_table(council, sides)), False)
        self.assertIs(are_loads(council, sides, plain_table(council, sides)[:-1] + [[]]), False)

    def test_twelve_sides(self):
        self.assertEqual(loads(DICTATOR, TWELVE_SIDES), [[()]] + [[] for _ in range(7)])
        late = Council([1, 2, 4, 8, 16, 32, 200], [100] * 6)
        table = plain_table(late, TWELVE_SIDES)
        self.assertEqual([len(level) for level in table], [1, 1, 2, 5, 15, 52, 203, 0])
        self.assertEqual(loads(late, TWELVE_SIDES), table)
        self.assertIs(are_loads(late, TWELVE_SIDES, table), True)
        self.assertIsNone(loads(MEDIAN, TWELVE_SIDES))

    def test_returned_lists_are_new(self):
        council, sides = Council([1, 1, 1], [2, 2]), [(0, "least"), (1, "least")]
        table = loads(council, sides)
        kept = copy.deepcopy(table)
        for level in table:
            level.append("more")
        table.clear()
        self.assertEqual(loads(council, sides), kept)


class AreLoadsTest(unittest.TestCase):
    council = Council([2, 1, 2, 3], [4, 3])
    sides = [(0, "least"), (1, "least")]
    table = [[()], [(2,)], [(2, 1), (3,)], [(3, 2)], []]

    def check(self, thing, answer):
        with self.subTest(thing=repr(thing)[:80]):
            self.assertIs(are_loads(self.council, self.sides, thing), answer)

    def test_the_table_itself(self):
        self.assertEqual(loads(self.council, self.sides), self.table)
        self.check(self.table, True)
        self.check(copy.deepcopy(self.table), True)

    def test_another_order_and_loads_twice(self):
        self.check([level[::-1] for level in self.table], True)
        self.check([level * 3 for level in self.table], True)
        self.check([[()] * 3, [(2,)] * 2, [(3,), (2, 1), (3,)], [(3, 2)], []], True)

    def test_loads_too_many(self):
        self.check([[()], [(2,), (4,)], [(3,), (2, 1)], [(3, 2)], []], True)
        self.check([[()], [(2,), (1, 1, 1, 1)], [(3,), (2, 1)], [(3, 2), (3, 3), (GREAT,), (1,) * 20], []], True)
        self.check([[(), (9,), (9, 9, 9)], [(2,)], [(3,), (2, 1)], [(3, 2)], []], True)
        self.check([[()], [(2,), (10 ** 60,)], [(3,), (2, 1)], [(3, 2)], []], True)

    def test_loads_too_many_that_fit_must_be_followed(self):
        self.check([[(), (1,)], [(2,)], [(3,), (2, 1)], [(3, 2)], []], False)
        self.check([[(), (1,)], [(2,), (3,), (2, 1)], [(3,), (2, 1), (3, 1)], [(3, 2)], []], False)
        more = [[(), (1,)], [(2,), (3,), (2, 1)], [(3,), (2, 1), (3, 1), (2, 2)], [(3, 2)], []]
        self.check(more, True)
        self.check([[()], [(2,)], [(2, 1), (3,)], [(3, 2), (2,)], []], False)
        self.check([[()], [(2,)], [(2, 1), (3,)], [(3, 2), (3, 1)], []], True)
        self.check([[()], [(2,), ()], [(2, 1), (3,)], [(3, 2)], []], False)

    def test_a_load_left_out(self):
        for at, level in enumerate(self.table):
            for load in level:
                less = [[kept for kept in other if at != k or kept != load] for k, other in enumerate(self.table)]
                self.check(less, False)
        self.check([[], [], [], [], []], False)

    def test_a_last_list_that_is_not_empty(self):
        for load in ((), (1,), (9,), (3, 3)):
            self.check(self.table[:-1] + [[load]], False)

    def test_what_is_no_load(self):
        wrong = [
            (1, 2), (2, 3, 2), (0,), (2, 0), (-1,), (3, -1), (True,), (3, True), (False,), (None,), ("2",), ((2,),),
            ([2],), (2, None), [2], [], "2", 2, None, {2: 2}, {2}, b"2", True, ({},), (2, (1,)),
            # What comes of these does not fit, so nothing else speaks against them.
            (9, 0), (9, -1), (9, 9, 0), (-9, -9), (9, True), (9, False), (8, 9), (9, 8, 9), (9, None),
        ]
        for load in wrong:
            for at in range(4):
                thing = copy.deepcopy(self.table)
                thing[at].append(load)
                self.check(thing, False)
            self.check(self.table[:-1] + [[load]], False)

    def test_truth_values_do_not_stand_for_one(self):
        council, sides = Council([1, 1, 1], [2, 2]), [(0, "least"), (1, "least")]
        self.assertIs(are_loads(council, sides, [[()], [(1,)], [(1, 1)], []]), True)
        self.assertIs(are_loads(council, sides, [[()], [(True,)], [(1, 1)], []]), False)
        self.assertIs(are_loads(council, sides, [[()], [(1,)], [(1, True)], []]), False)

    def test_a_list_more_or_less(self):
        self.check(self.table + [[]], False)
        self.check(self.table[:-1], False)
        self.check(self.table[1:], False)
        self.check([[]] + self.table, False)
        self.check([], False)

    def test_other_kinds_of_containers(self):
        self.check(tuple(self.table), False)
        self.check([tuple(level) for level in self.table], False)
        self.check([[list(load) for load in level] for level in self.table], False)
        self.check(self.table[:-1] + [()], False)
        self.check(self.table[:-1] + [None], False)
        self.check([{load: True for load in level} for level in self.table], False)
        self.check([set(level) for level in self.table], False)
        self.check(dict(enumerate(self.table)), False)

    def test_values_of_all_kinds(self):
        for thing in odd_values():
            self.check(thing, False)
            self.check([thing] * 5, False)
            self.check(self.table[:-1] + [thing], thing == [])

    def test_large_things(self):
        long = tuple(range(25000, 0, -1))
        self.check([[()], [(2,), long], [(3,), (2, 1)], [(3, 2)], []], True)
        self.check([[()], [(2,)] + [(4 + k,) for k in range(12000)], [(3,), (2, 1)], [(3, 2)], []], True)
        self.check([[()], [(2,)] * 12000, [(3,), (2, 1)], [(3, 2)] * 500, []], True)
        self.check([[()], [(2,)], [(3,), (2, 1)], [(1,) * 25000], []], False)

    def test_the_table_shows_it_for_other_sides_with_these_allowances(self):
        self.assertIs(are_loads(self.council, self.sides[::-1], self.table), True)
        self.assertIs(are_loads(self.council, self.sides[:1], self.table), True)
        self.assertIs(are_loads(Council([2, 1, 2, 3], [5, 3]), self.sides, self.table), False)

    def test_random_tables_with_changes(self):
        chance = random.Random(47)
        for _ in range(200):
            council, sides = some_council(chance, 3, chance.randint(2, 5), 4), some_sides(chance, 3)
            table = plain_table(council, sides)
            if not table[-1]:
                at = chance.randrange(len(table))
                for load in list(table[at]):
                    fewer = [list(level) for level in table]
                    fewer[at].remove(load)
                    self.assertIs(are_loads(council, sides, fewer), False)

    def test_the_thing_is_not_changed(self):
        for thing in ([[()], [(2,)] * 2, [(3,), (2, 1)], [(3, 2)], []], [[1, [2]], {"a": [3]}]):
            before = copy.deepcopy(thing)
            are_loads(self.council, self.sides, thing)
            self.assertEqual(thing, before)


if __name__ == "__main__":
    unittest.main()
