"""Promises [83] and [84], and what [10] says of charters."""

import copy
import itertools
import math
import random
import time
import unittest

from packedseats.charters import barriers, breach
from packedseats.councils import Council
from packedseats.errors import CouncilError, TooMany
from packedseats.sessions import settle
from tests.plain import (
    GREAT, TWELVE_SIDES, check_examples, plain_is_heavy, plain_made, plain_meets, plain_sessions, plain_settle,
    some_council, some_row, subsets_of,
)

MEDIAN = Council([1, 1, 1], [2, 2])
RULED = Council([1] * 6 + [10 ** 6], [500000] * 6)


def some_rows(chance, width, many, greatest):
    """Return different rows in any order, at most so many."""
    rows = sorted({some_row(chance, width, 0, greatest) for _ in range(many)})
    return chance.sample(rows, len(rows))


def others_of(allowed):
    """Return the rows that are not allowed, but have entries of allowed rows in their columns, in order."""
    columns = [sorted({row[column] for row in allowed}) for column in range(len(allowed[0]))]
    return [row for row in itertools.product(*columns) if row not in allowed]


def light_lists(councils, width):
    """Return the sets of sides that are light for all councils, by packings of this test: the smallest ones first."""
    light = {(): True}
    for sides in subsets_of(TWELVE_SIDES[:2 * width]):
        parts = all(light[(*sides[:at], *sides[at + 1:])] for at in range(len(sides)))
        light[tuple(sides)] = parts and not any(plain_is_heavy(council, sides) for council in councils)
    return [sides for sides, is_light in light.items() if is_light]


def plain_barrier(row, light, allowed):
    """Return the barrier of [84] for a row that is not allowed, or None."""
    for sides in light:
        bounds = [(*side, row[side[0]]) for side in sides]
        if not any(plain_meets(other, bounds) for other in allowed):
            return bounds
    return None


def is_closed(councils, allowed):
    """Return whether all sessions of allowed rows make allowed rows, by holding them all."""
    return all(plain_sessions(allowed, council) <= set(allowed) for council in councils)


def few_sessions(chance, width, rows):
    """Return a council that can hold only some thousands of sessions that differ for so many rows."""
    seats = chance.choice([some for some in range(2, 8) if rows ** some <= 3000] or [2])
    if chance.random() < 0.3 and rows <= 8:
        # Equal seats do not care who sits where.
        seats = chance.randint(3, 7)
        return Council([1] * seats, [chance.randint(1, seats) for _ in range(width)])
    return some_council(chance, width, seats)


class ChartersCase(unittest.TestCase):
    def check_breach(self, councils, allowed):
        """Check what a breach is, if one is returned; return whether the list is closed."""
        kept = copy.deepcopy(allowed)
        start = time.perf_counter()
        found = breach(councils, allowed)
        self.assertLess(time.perf_counter() - start, 5)
        self.assertEqual(allowed, kept)
        if found is None:
            return True
        self.assertEqual([type(found), *map(type, found)], [tuple, int, list, tuple])
        index, seats, row = found
        self.assertTrue(0 <= index < len(councils))
        self.assertEqual([type(seat) for seat in seats], [int] * len(councils[index]))
        self.assertTrue(all(0 <= seat < len(allowed) for seat in seats))
        given = [allowed[seat] for seat in seats]
        self.assertEqual(row, settle(councils[index], given))
        self.assertEqual(row, plain_settle(councils[index].weights(), councils[index].quotas(), given))
        self.assertNotIn(row, allowed)
        return False

    def check_barriers(self, councils, allowed, light=None):
        """Check the barriers against the definition; return whether the list is closed."""
        kept = copy.deepcopy(allowed)
        start = time.perf_counter()
        found = barriers(councils, allowed)
        self.assertLess(time.perf_counter() - start, 5)
        self.assertEqual(allowed, kept)
        closed = breach(councils, allowed) is None
        if not closed:
            self.assertIsNone(found)
            return False
        light = light_lists(councils, len(allowed[0])) if light is None else light
        self.assertEqual(found, [(row, plain_barrier(row, light, allowed)) for row in others_of(allowed)])
        self.assertEqual({type(entry) for entry in found}, {tuple for _ in found})
        return True

    def check_too_many(self, councils, allowed):
        with self.assertRaises(CouncilError) as caught:
            barriers(councils, allowed)
        self.assertIs(type(caught.exception), TooMany)
        self.assertEqual(caught.exception.limit, 400)


class BreachTest(ChartersCase):
    def test_example(self):
        check_examples(self, """
>>> from packedseats.councils import Council
>>> from packedseats.charters import breach
>>> breach([Council([1, 1, 1], [2, 2])], [(0, 2), (2, 0), (1, 1)]) is None
True
""")

    def test_against_all_sessions(self):
        chance = random.Random(230)
        answers = []
        for _ in range(500):
            width = chance.randint(1, 6)
            allowed = some_rows(chance, width, chance.randint(1, 12), chance.choice([1, 1, 2, 5]))
            councils = [few_sessions(chance, width, len(allowed)) for _ in range(chance.randint(0, 3))]
            closed = is_closed(councils, allowed)
            self.assertIs(self.check_breach(councils, allowed), closed)
            answers.append(closed)
        self.assertGreater(min(answers.count(True), answers.count(False)), 100)

    def test_five_councils_of_seven_seats_against_all_sessions(self):
        chance = random.Random(235)
        answers = []
        while min(answers.count(True), answers.count(False)) < 15:
            width = chance.randint(2, 6)
            councils = [some_council(chance, width, 7) for _ in range(5)]
            # Equal rows in all columns but few make it likely enough that the list is closed.
            allowed = [tuple(chance.choice([at, at, 0]) for _ in range(width)) for at in range(chance.randint(2, 3))]
            if len(set(allowed)) == len(allowed):
                closed = is_closed(councils, allowed)
                self.assertIs(self.check_breach(councils, allowed), closed)
                answers.append(closed)

    def test_closed_lists_and_what_is_left_of_them(self):
        # All that can be made is closed; without one made row it is closed only if no session makes that row.
        chance = random.Random(231)
        lengths, answers = [], []
        while len(lengths) < 80:
            width = chance.randint(1, 4)
            councils = [some_council(chance, width, chance.choice([2, 3, 3, 4]), chance.choice([1, 2, 3]))
                        for _ in range(chance.randint(1, 2))]
            allowed = sorted(plain_made(some_rows(chance, width, chance.randint(2, 4), 2), councils))
            if not 4 <= len(allowed) <= 12:
                continue
            lengths.append(len(allowed))
            self.assertIs(self.check_breach(councils, chance.sample(allowed, len(allowed))), True)
            for row in chance.sample(allowed, 3):
                less = [other for other in allowed if other != row]
                closed = is_closed(councils, less)
                self.assertIs(self.check_breach(councils, less), closed)
                answers.append(closed)
        self.assertGreater(min(answers.count(True), answers.count(False)), 30)
        self.assertGreater(sum(length > 8 for length in lengths), 10)

    def test_chains_and_grids(self):
        # A chain is closed whatever the quotas of one column are like; a grid has all rows of its entries.
        chance = random.Random(232)
        for width in range(1, 7):
            for _ in range(10):
                seats = chance.randint(2, 7)
                quota = chance.randint(1, seats)
                same = Council([1] * seats, [quota] * width)
                chain = [(at,) * width for at in range(12)]
                self.assertIs(self.check_breach([same], chance.sample(chain, 12)), True)
                councils = [some_council(chance, width) for _ in range(5)]
                grid = list(itertools.product(*[range(2)] * min(width, 3), *[range(1)] * max(0, width - 3)))
                self.assertIs(self.check_breach(councils, grid), True)
        self.assertIs(self.check_breach([Council([1, 1], [1, 2])], [(0, 0), (1, 1)]), False)

    def test_one_row_and_no_councils(self):
        chance = random.Random(233)
        for width in range(1, 7):
            for many in range(1, 13):
                allowed = some_rows(chance, width, many, 9)
                self.assertIsNone(breach([], allowed))
                self.assertIsNone(breach([RULED.part(list(range(width)))] * 5, allowed))
            councils = [some_council(chance, width) for _ in range(5)]
            self.assertIsNone(breach(councils, [some_row(chance, width, -GREAT, GREAT)]))

    def test_the_later_council_breaks_it(self):
        allowed, high, low = [(0, 1), (1, 0)], Council([1, 1], [2, 2]), Council([1, 1], [1, 1])
        ruled = Council([1, 3], [2, 2])
        self.assertEqual(breach([ruled, MEDIAN, ruled, high], allowed)[0], 3)
        self.assertEqual(breach([ruled, MEDIAN, ruled, high], allowed)[2], (1, 1))
        self.assertEqual(breach([low, ruled], allowed)[::2], (0, (0, 0)))
        self.assertIsNone(breach([ruled, MEDIAN], allowed))

    def test_the_largest_inputs(self):
        chance = random.Random(234)
        answers = []
        for greatest in (1, 5, 10 ** 6):
            for entries in (1, 3, GREAT):
                allowed = some_rows(chance, 6, 12, entries)
                for councils in ([some_council(chance, 6, 7, greatest) for _ in range(5)], [RULED] * 5, []):
                    answers.append(self.check_breach(councils, allowed))
        self.assertGreater(min(answers.count(True), answers.count(False)), 5)
        # Rows of which none lies between the others, so that there are many gaps.
        orders = [chance.sample(range(12), 12) for _ in range(6)]
        for councils in ([RULED] * 5, [], [Council([1, 1], [1, 1, 1, 1, 1, 1])], [Council([1] * 7, [4] * 6)]):
            self.check_breach(councils, list(zip(*orders)))

    def test_same_question_again(self):
        councils, allowed = [MEDIAN, Council([1, 1], [2, 2])], [(0, 1), (1, 0)]
        found = breach(councils, allowed)
        kept = copy.deepcopy(found)
        found[1].clear()
        self.assertIsNone(breach(councils[:1], allowed))
        self.assertEqual(breach(councils, allowed), kept)
        self.assertEqual(allowed, [(0, 1), (1, 0)])


class BarriersTest(ChartersCase):
    def test_example(self):
        check_examples(self, """
>>> from packedseats.councils import Council
>>> from packedseats.charters import barriers
>>> barriers([Council([1, 1, 1], [2, 2])], [(0, 1), (1, 0)])
[((0, 0), [(0, 'most', 0), (1, 'most', 0)]), ((1, 1), [(0, 'least', 1), (1, 'least', 1)])]
""")

    def test_against_the_definition(self):
        chance = random.Random(240)
        answers, lengths = [], []
        for _ in range(400):
            width = chance.randint(1, 4)
            allowed = some_rows(chance, width, chance.randint(1, 7), chance.choice([1, 2, 3]))
            if len(others_of(allowed)) > 400:
                continue
            councils = [some_council(chance, width) for _ in range(chance.choice([0, 1, 1, 2]))]
            closed = self.check_barriers(councils, allowed)
            answers.append(closed)
            lengths += [len(bounds) for _, bounds in barriers(councils, allowed) or []]
        self.assertGreater(min(answers.count(True), answers.count(False)), 100)
        self.assertGreater(min(lengths.count(length) for length in (2, 3)), 50)

    def test_rows_and_bounds_in_order_of_their_numbers(self):
        chance = random.Random(245)
        many = 0
        while many < 60:
            width = chance.randint(1, 3)
            entries = [chance.choice([-GREAT, GREAT, 0, -1, -2, 5, 1 << 40]) + at for at in range(5)]
            allowed = sorted({tuple(chance.choice(entries) for _ in range(width)) for _ in range(chance.randint(2, 5))})
            allowed = [tuple(max(-GREAT, min(GREAT, entry)) for entry in row) for row in allowed]
            if len(set(allowed)) == len(allowed):
                many += 1
                self.assertIs(self.check_barriers([], allowed), True)
                self.check_barriers([some_council(chance, width)], allowed)

    def test_closed_lists(self):
        chance = random.Random(241)
        lengths = []
        while len(lengths) < 60:
            width = chance.randint(2, 4)
            councils = [some_council(chance, width, chance.choice([2, 3, 3, 4]), chance.choice([1, 2, 3]))]
            allowed = sorted(plain_made(some_rows(chance, width, chance.randint(2, 4), 2), councils))
            if 3 <= len(allowed) <= 12 and others_of(allowed):
                lengths.append(len(allowed))
                self.assertIs(self.check_barriers(councils, chance.sample(allowed, len(allowed))), True)

    def test_width_five_and_six(self):
        chance = random.Random(242)
        answers = []
        for width in (5, 6):
            for councils in ([], [RULED.part(list(range(width)))], [Council([1] * 7, [1] * width)],
                             [Council([1] * 7, [4] * width)] * 5):
                light = light_lists(councils, width)
                for many in (2, 2, 3, 12):
                    allowed = some_rows(chance, width, many, 1)
                    answers.append(self.check_barriers(councils, allowed, light))
        self.assertGreater(min(answers.count(True), answers.count(False)), 5)

    def test_none_exactly_with_a_breach(self):
        chance = random.Random(243)
        answers = []
        for _ in range(300):
            width = chance.randint(2, 6)
            allowed = some_rows(chance, width, chance.randint(1, 12), 1)
            councils = [few_sessions(chance, width, len(allowed)) for _ in range(chance.randint(1, 2))]
            closed = is_closed(councils, allowed)
            self.assertIs(barriers(councils, allowed) is not None, closed)
            answers.append(closed)
        self.assertGreater(min(answers.count(True), answers.count(False)), 50)

    def test_no_rows_but_allowed_ones(self):
        for councils in ([], [MEDIAN], [MEDIAN] * 5):
            self.assertEqual(barriers(councils, [(4, 5)]), [])
            self.assertEqual(barriers(councils, [(0, 0), (1, 1), (1, 0), (0, 1)]), [])
        self.assertEqual(barriers([Council([1, 1], [1])], [(GREAT,), (-GREAT,), (0,)]), [])

    def test_fewest_bounds_and_then_the_first_in_order(self):
        allowed = [(0, 0), (1, 1), (2, 2)]
        first = ((0, 1), [(0, "most", 0), (1, "least", 1)])
        self.assertEqual(barriers([], allowed)[0], first)
        self.assertEqual(barriers([MEDIAN], allowed)[0], first)
        self.assertEqual(barriers([], [(0, 1), (1, 0), (2, 2)])[0], ((0, 0), [(0, "most", 0), (1, "most", 0)]))
        self.assertEqual(barriers([], [(0, 2), (2, 0), (1, 1)])[2], ((1, 0), [(0, "most", 1), (1, "most", 0)]))

    def test_four_hundred_rows_and_more(self):
        # Five rows with 5, 3, 3, 3 and 3 entries: 405 rows less five.
        five = [(at, min(at, 2), min(at, 2), min(at, 2), min(at, 2)) for at in range(5)]
        self.assertEqual(len(others_of(five)), 400)
        ruled, same = RULED.part(list(range(5))), Council([1, 1], [2] * 5)
        for councils in ([], [ruled], [same], [same, ruled] * 2 + [same]):
            self.assertIs(self.check_barriers(councils, five), True)
            found = barriers(councils, five)
            self.assertEqual([row for row, _ in found], others_of(five))
        self.assertIsNone(barriers([Council([1, 1], [1, 2, 1, 1, 1])], five))

    def test_more_than_four_hundred_rows(self):
        # No list of at most twelve rows has just 401 such rows, but one of fifteen can have them.
        fifteen = [(min(at, 12), min(at, 7), at % 4) for at in range(15)]
        self.assertEqual(len(others_of(fifteen)), 401)
        self.assertIsNotNone(breach([Council([1, 1], [1, 2, 1])], fifteen))
        for councils in ([], [Council([1, 1], [1, 2, 1])], [RULED.part([0, 1, 2])] * 5):
            self.check_too_many(councils, fifteen)
        for many, columns in self.boards_with_just_too_many():
            width = len(columns)
            allowed = [tuple(min(at, some - 1) for some in columns) for at in range(many)]
            self.assertTrue(400 < len(others_of(allowed)) < 440)
            for council in (Council([1, 1], [2] * 6), Council([1, 1], [1, 2] * 3), RULED):
                self.check_too_many([council.part(list(range(width)))], allowed)
            self.check_too_many([], allowed)
        twelve = [(at,) * 6 for at in range(12)]
        for councils in ([], [RULED], [Council([1, 1], [1, 2, 1, 2, 1, 2])] * 5):
            self.check_too_many(councils, twelve)
            self.check_too_many(councils, twelve[::-1])

    def boards_with_just_too_many(self):
        """Return tuples (rows, entries of each column) of boards with little more than 400 other rows."""
        found = []
        for many in range(2, 13):
            for width in range(3, 7):
                for columns in itertools.combinations_with_replacement(range(1, many + 1), width):
                    if max(columns) == many and math.prod(columns) - many > 400:
                        found.append((math.prod(columns) - many, many, columns))
        return [(many, columns) for _, many, columns in sorted(found)[:4]]

    def test_the_largest_inputs(self):
        chance = random.Random(244)
        answers = []
        for columns in ((4, 4, 4, 3, 2, 1), (2, 2, 2, 2, 2, 12), (6, 6, 11, 1, 1, 1), (3, 3, 3, 3, 5, 1)):
            allowed = []
            while len(set(allowed)) < 12:
                allowed = [tuple(chance.randrange(some) for some in columns) for _ in range(12)]
            for greatest in (1, 5, 10 ** 6):
                councils = [some_council(chance, 6, 7, greatest) for _ in range(5)]
                answers.append(self.check_barriers(councils, allowed))
            for councils in ([RULED] * 5, []):
                answers.append(self.check_barriers(councils, allowed))
        self.assertLessEqual({True, False}, set(answers))

    def test_same_question_again(self):
        allowed = [(0, 1), (1, 0)]
        found = barriers([MEDIAN], allowed)
        kept = copy.deepcopy(found)
        for _, bounds in found:
            bounds.clear()
        found.clear()
        barriers([], allowed).clear()
        self.assertIsNone(barriers([Council([1, 1], [2, 2])], allowed))
        self.assertEqual(barriers([MEDIAN], allowed), kept)
        self.assertEqual(allowed, [(0, 1), (1, 0)])


if __name__ == "__main__":
    unittest.main()
