"""Promises [44] and [45], and what [2] and [6] say of light and heavy sides."""

import itertools
import random
import time
import unittest

from packedseats.bounds import sides_of
from packedseats.councils import Council
from packedseats.lightness import heavy_sets, is_light, light_sets
from packedseats.sessions import settle
from tests.plain import TWELVE_SIDES, check_examples, plain_is_heavy, some_council, subsets_of

MILLION = 10 ** 6
LEAST = Council([1, 1], [1, 1])
MEDIAN = Council([1, 1, 1], [2, 2])
SIDES = TWELVE_SIDES[:4]


def plain_is_light(councils, sides):
    return not any(plain_is_heavy(council, sides) for council in councils)


def plain_sets(councils, sides):
    """Return what [45] says of both functions, by going through all subsets."""
    every = [frozenset(some) for some in subsets_of(sides)]
    light = [some for some in every if plain_is_light(councils, sorted(some))]
    heavy = [some for some in every if some not in light]
    greatest = [some for some in light if not any(some < other for other in light)]
    least = [some for some in heavy if not any(other < some for other in heavy)]
    return [sorted([sorted(some) for some in kept]) for kept in (greatest, least)]


class LightnessTest(unittest.TestCase):
    def check(self, councils, sides):
        kept = [list(councils), list(sides)]
        greatest, least = plain_sets(councils, sides)
        self.assertEqual(light_sets(councils, sides), greatest)
        self.assertEqual(heavy_sets(councils, sides), least)
        self.assertEqual([councils, sides], kept)

    def test_examples(self):
        check_examples(self, """
>>> from packedseats.councils import Council
>>> from packedseats.lightness import is_light
>>> median, least = Council([1, 1, 1], [2, 2]), Council([1, 1], [1, 1])
>>> [is_light([median], [(0, 'most'), (1, 'most')]), is_light([median, least], [(0, 'most'), (1, 'most')])]
[True, False]
>>> from packedseats.councils import Council
>>> from packedseats.lightness import light_sets, heavy_sets
>>> least = Council([1, 1], [1, 1])
>>> sides = [(0, 'least'), (0, 'most'), (1, 'most')]
>>> [light_sets([least], sides), heavy_sets([least], sides)]
[[[(0, 'least'), (0, 'most')], [(0, 'least'), (1, 'most')]], [[(0, 'most'), (1, 'most')]]]
""")

    def test_is_light_against_all_ways(self):
        chance = random.Random(48)
        for _ in range(300):
            width = chance.randint(1, 6)
            councils = [some_council(chance, width) for _ in range(chance.randint(0, 5))]
            sides = chance.sample(TWELVE_SIDES[:2 * width], chance.randint(0, 2 * width))
            self.assertIs(is_light(councils, sides), plain_is_light(councils, sides))

    def test_is_light_in_each_place_of_the_list(self):
        sides = [(0, "most"), (1, "most")]
        for at in range(5):
            councils = [MEDIAN] * at + [LEAST] + [MEDIAN] * (4 - at)
            self.assertIs(is_light(councils, sides), False)
        self.assertIs(is_light([MEDIAN] * 5, sides), True)

    def test_no_councils(self):
        for sides in subsets_of(SIDES):
            self.assertIs(is_light([], sides[::-1]), True)
            self.assertEqual(light_sets([], sides[::-1]), [sides])
            self.assertEqual(heavy_sets([], sides[::-1]), [])

    def test_no_sides(self):
        for councils in ([], [LEAST], [LEAST, MEDIAN] * 2):
            self.assertIs(is_light(councils, []), True)
            self.assertEqual(light_sets(councils, []), [[]])
            self.assertEqual(heavy_sets(councils, []), [])

    def test_sets_against_all_subsets(self):
        chance = random.Random(49)
        for _ in range(80):
            width = chance.randint(1, 3)
            councils = [some_council(chance, width) for _ in range(chance.choice([0, 1, 1, 2, 5]))]
            sides = chance.sample(TWELVE_SIDES[:2 * width], chance.randint(0, 2 * width))
            self.check(councils, sides)

    def test_sides_of_great_columns(self):
        chance = random.Random(50)
        for _ in range(15):
            councils = [some_council(chance, 6) for _ in range(2)]
            self.check(councils, chance.sample(TWELVE_SIDES, 7))

    def test_one_council_twice(self):
        chance = random.Random(51)
        for _ in range(30):
            one, other = some_council(chance, 2), some_council(chance, 2)
            self.check([one, one], SIDES)
            self.assertEqual(light_sets([one, other, one], SIDES), light_sets([one, other], SIDES))
            self.assertEqual(heavy_sets([one, other, one], SIDES), heavy_sets([other, one], SIDES))

    def test_sides_in_any_order(self):
        councils = [MEDIAN, LEAST]
        for sides in itertools.permutations(SIDES):
            self.assertEqual(light_sets(councils, list(sides)), light_sets(councils, SIDES))
            self.assertEqual(heavy_sets(councils, list(sides)), heavy_sets(councils, SIDES))

    def test_each_list_in_order(self):
        self.assertEqual(heavy_sets([MEDIAN], SIDES[::-1]), [SIDES[:3], [SIDES[0], SIDES[1], SIDES[3]],
                                                              [SIDES[0], SIDES[2], SIDES[3]], SIDES[1:]])
        self.assertEqual(light_sets([MEDIAN], SIDES[::-1]), [list(pair) for pair in itertools.combinations(SIDES, 2)])
        mixed = heavy_sets([Council([3, 2, 2], [3, 5])], SIDES[::-1])
        self.assertEqual(mixed, [[SIDES[0], SIDES[1], SIDES[3]], [SIDES[0], SIDES[2], SIDES[3]], SIDES[1:3]])

    def test_sets_of_different_lengths_in_order(self):
        council = Council([2, 1, 1, 1], [2, 3, 4])
        sides = TWELVE_SIDES[:6]
        self.check([council], sides)
        found = heavy_sets([council], sides)
        self.assertEqual(found, sorted(found))
        self.assertGreater(len({len(some) for some in found}), 1)

    def test_sides_that_are_all_light(self):
        dictator = Council([9, 1, 1], [5] * 6)
        self.assertIs(is_light([dictator], TWELVE_SIDES), True)
        self.assertEqual(light_sets([dictator], TWELVE_SIDES[::-1]), [TWELVE_SIDES])
        self.assertEqual(heavy_sets([dictator], TWELVE_SIDES), [])
        others = [Council([9, 1, 1], [1, 11, 5, 5, 5, 5]), dictator]
        self.assertIs(is_light(others, TWELVE_SIDES), False)

    def test_single_sides_and_single_columns_are_light(self):
        # An allowance is less than the total, and those of a column together are, too.
        chance = random.Random(52)
        for _ in range(50):
            councils = [some_council(chance, 6) for _ in range(5)]
            for column in range(6):
                both = [(column, "least"), (column, "most")]
                self.assertIs(is_light(councils, both), True)
                self.assertEqual(light_sets(councils, both), [both])
                self.assertEqual(heavy_sets(councils, both), [])
                self.assertEqual(light_sets(councils, both[1:]), [both[1:]])
                self.assertEqual(heavy_sets(councils, both[:1]), [])

    def test_each_subset_has_a_part_in_one_list_only(self):
        chance = random.Random(53)
        for _ in range(10):
            councils = [some_council(chance, 3) for _ in range(2)]
            light = [set(some) for some in light_sets(councils, TWELVE_SIDES[:6])]
            heavy = [set(some) for some in heavy_sets(councils, TWELVE_SIDES[:6])]
            for some in subsets_of(TWELVE_SIDES[:6]):
                in_light = any(set(some) <= other for other in light)
                self.assertIs(in_light, not any(other <= set(some) for other in heavy))
                self.assertIs(in_light, is_light(councils, some))

    def test_values_do_not_matter(self):
        wish = [(1, "most", 7), (0, "most", -7)]
        for value in (-3, 0, 3):
            moved = [(column, way, bound + value) for column, way, bound in wish]
            self.assertIs(is_light([MEDIAN], sides_of(moved)), True)
            self.assertIs(is_light([LEAST], sides_of(moved)), False)

    def test_light_means_that_no_session_meets_what_no_row_meets(self):
        # The rows below each miss one side only, so a session meets all sides if and only if they are packed.
        for council in (LEAST, MEDIAN, Council([3, 2, 2], [3, 5]), Council([1, 2, 3, 1], [2, 6])):
            for sides in subsets_of(SIDES):
                rows = [tuple([1 if k != column else 1 + (-1 if way == "least" else 1) for k in range(2)])
                        for column, way in sides]
                made = [settle(council, session) for session in itertools.product(rows, repeat=len(council))]
                met = [row for row in made if all((row[column] >= 1) if way == "least" else (row[column] <= 1)
                                                  for column, way in sides)]
                self.assertIs(is_light([council], sides), not met)

    def check_largest(self, councils):
        """Check both lists by their neighbours: with one side more or less the answer changes."""
        start = time.perf_counter()
        light, heavy = light_sets(councils, TWELVE_SIDES[::-1]), heavy_sets(councils, TWELVE_SIDES)
        self.assertLess(time.perf_counter() - start, 20)
        for found in (light, heavy):
            self.assertEqual(found, sorted([sorted(some) for some in found]))
            self.assertEqual(len({tuple(some) for some in found}), len(found))
        for some in light:
            self.assertTrue(plain_is_light(councils, some))
            for side in TWELVE_SIDES:
                self.assertTrue(side in some or not plain_is_light(councils, some + [side]))
        for some in heavy:
            self.assertFalse(plain_is_light(councils, some))
            for side in some:
                self.assertTrue(plain_is_light(councils, [other for other in some if other != side]))
        for some in itertools.combinations(TWELVE_SIDES, 4):
            in_light = any(set(some) <= set(other) for other in light)
            self.assertIs(in_light, not any(set(other) <= set(some) for other in heavy))

    def test_the_largest_inputs(self):
        chance = random.Random(54)
        for greatest in (1, 3, 40, MILLION, MILLION):
            self.check_largest([some_council(chance, 6, 7, greatest) for _ in range(5)])
        self.check_largest([Council([MILLION] + [1] * 6, [MILLION] * 6) for _ in range(5)])
        self.check_largest([Council([1] * 7, [1, 2, 3, 4, 5, 6])] * 5)

    def test_returned_lists_are_new(self):
        councils, sides = [LEAST], [(0, "least"), (0, "most"), (1, "most")]
        for function in (light_sets, heavy_sets):
            found = function(councils, sides)
            kept = [list(some) for some in found]
            for some in found:
                some.append("more")
            found.clear()
            self.assertEqual(function(councils, sides), kept)
        light_sets([], sides)[0].clear()
        self.assertEqual([sides, councils], [[(0, "least"), (0, "most"), (1, "most")], [LEAST]])


if __name__ == "__main__":
    unittest.main()
