"""Promises [90] and [91], and what [11] says of rounds."""

import copy
import random
import time
import unittest

from packedseats.councils import Council
from packedseats.plans import follow
from packedseats.rounds import least_rounds, met_sets
from packedseats.wishes import decide, is_possible
from tests.plain import (
    GREAT, TWELVE_SIDES, check_examples, check_plan, plain_is_heavy, plain_meets, plain_sessions, some_council,
    some_row, some_small_board, some_wish, subsets_of,
)

MOST = Council([1, 1], [2, 2])
MEDIAN = Council([1, 1, 1], [2, 2])
HIGH = [(0, "least", 1), (1, "least", 1)]


def plain_rounds(rows, councils):
    """Return the sets of the rows that can be made in no round, in one round and so on, until none is new."""
    made = [set(rows)]
    while True:
        more = set(rows).union(*[plain_sessions(sorted(made[-1]), council) for council in councils if rows])
        if more == made[-1]:
            return made
        made.append(more)


def plain_level(rows, wish):
    """Return the sets of bounds that are met by some row, and are not a part of another such set."""
    met = {tuple(bound for bound in sorted(wish) if plain_meets(row, [bound])) for row in rows}
    return sorted(list(some) for some in met if not any(set(some) < set(other) for other in met))


def plain_met_sets(rounds, wish):
    levels = [plain_level(rows, wish) for rows in rounds]
    levels.append(levels[-1])
    return levels[:next(at for at in range(len(levels) - 1) if levels[at] == levels[at + 1]) + 1]


def slow_board(chance):
    """Return (rows, councils) from which rows are made in several rounds: the councils join few bounds at a time."""
    width = chance.randint(3, 4)
    rows = [tuple(int(column == other) for other in range(width)) for column in range(width)]
    councils = [Council([1, 1], [2] * width), Council([2, 1, 1], [3] * width), Council([1, 1, 1], [2] * width)]
    return rows[:chance.randint(2, width)], chance.sample(councils, chance.randint(1, 2))


def some_wishes(chance, rounds, width):
    """Return two wishes of at most four bounds, and if there is one, two that a row of the last round meets."""
    wishes = [some_wish(chance, width, 0, 3, chance.randint(0, min(4, 2 * width))) for _ in range(2)]
    late = sorted(rounds[-1] - rounds[0])
    if late:
        row = chance.choice(sorted(rounds[-1] - rounds[-2]))
        every = [(column, way, entry) for column, entry in enumerate(row) for way in ("least", "most")]
        wishes += [chance.sample(every, min(4, len(every))) for _ in range(2)]
    return wishes


class RoundsCase(unittest.TestCase):
    def ask(self, function, rows, councils, wish):
        kept = copy.deepcopy([rows, wish]), repr(councils)
        start = time.perf_counter()
        found = function(rows, councils, wish)
        self.assertLess(time.perf_counter() - start, 5)
        self.assertEqual(([rows, wish], repr(councils)), kept)
        return found

    def check_rounds(self, rows, councils, wish):
        """Check the answer but for whether the number is the least one; return it, or None for what is never made."""
        found = self.ask(least_rounds, rows, councils, wish)
        if not is_possible(rows, councils, wish):
            self.assertEqual(found, ("never", decide(rows, councils, wish)[1]))
            return None
        self.assertEqual([type(found), len(found), found[0], type(found[1])], [tuple, 3, "rounds", int])
        _, number, plan = found
        end = check_plan(self, rows, councils, wish, plan, 4095)
        self.assertEqual(follow(rows, councils, plan)[1], end)
        round_of = [0] * len(rows)
        for _, seats in plan[0]:
            round_of.append(1 + max(round_of[seat] for seat in seats))
        self.assertLessEqual(max(round_of), number)
        return number


class MetSetsTest(RoundsCase):
    def check(self, rows, councils, wish, rounds=None):
        found = self.ask(met_sets, rows, councils, wish)
        rounds = plain_rounds(rows, councils) if rounds is None else rounds
        self.assertEqual(found, plain_met_sets(rounds, wish))
        self.assertEqual([type(found), {type(level) for level in found}], [list, {list}])
        return found

    def test_example(self):
        check_examples(self, """
>>> from packedseats.councils import Council
>>> from packedseats.rounds import met_sets
>>> met_sets([(1, 0), (0, 1), (0, 0)], [Council([1, 1], [2, 2])], [(0, 'least', 1), (1, 'least', 1)])
[[[(0, 'least', 1)], [(1, 'least', 1)]], [[(0, 'least', 1), (1, 'least', 1)]]]
""")

    def test_against_all_sessions_round_by_round(self):
        chance = random.Random(250)
        lengths = []
        for _ in range(500):
            rows, councils = some_small_board(chance)
            width, rounds = councils[0].width(), plain_rounds(rows, councils)
            for wish in some_wishes(chance, rounds, width):
                lengths.append(len(self.check(rows, councils, wish, rounds)))
        self.assertGreater(min(lengths.count(length) for length in (1, 2)), 30)

    def test_boards_that_need_several_rounds(self):
        chance = random.Random(251)
        lengths = []
        for _ in range(60):
            rows, councils = slow_board(chance)
            sides = chance.sample(range(len(rows[0])), chance.randint(2, len(rows[0])))
            wish = [(column, *chance.choice([("least", 1), ("least", 1), ("most", 0)])) for column in sides]
            lengths.append(len(self.check(rows, councils, wish)))
        self.assertGreater(min(lengths.count(length) for length in (1, 2, 3)), 5)

    def test_no_rows_no_bounds_no_councils(self):
        for councils in ([], [MEDIAN], [MEDIAN] * 5):
            self.assertEqual(self.check([], councils, []), [[]])
            self.assertEqual(self.check([], councils, HIGH), [[]])
            self.assertEqual(self.check([(0, 0), (1, 5)], councils, []), [[[]]])
            self.assertEqual(self.check([(0, 0), (0, 0)], councils, HIGH), [[[]]])
        rows = [(1, 0), (0, 1), (0, 0)]
        self.assertEqual(self.check(rows, [], HIGH), [[HIGH[:1], HIGH[1:]]])
        self.assertEqual(self.check(rows + [(1, 1)], [MOST], HIGH), [[HIGH]])
        self.assertEqual(self.check(rows, [MEDIAN], HIGH), [[HIGH[:1], HIGH[1:]]])

    def test_the_last_level_is_the_first_that_is_equal_to_the_next(self):
        # Each round joins two sets: one bound, two bounds, four bounds.
        rows = [tuple(int(column == other) for other in range(4)) for column in range(4)]
        wish = [(column, "least", 1) for column in range(4)]
        levels = self.check(rows, [Council([1, 1], [2] * 4)], wish)
        self.assertEqual([len(level) for level in levels], [4, 6, 1])
        self.assertEqual(levels[1], [[wish[at], wish[to]] for at in range(4) for to in range(at + 1, 4)])
        self.assertEqual(levels[2], [wish])

    def test_lists_are_new(self):
        rows, wish = [(1, 0), (0, 1), (0, 0)], list(HIGH)
        found = met_sets(rows, [MOST], wish)
        kept = copy.deepcopy(found)
        for level in found:
            for some in level:
                some.clear()
            level.clear()
        found.clear()
        met_sets(rows[:1], [], wish[1:]).clear()
        self.assertEqual(met_sets(rows, [MOST], wish), kept)
        self.assertEqual(met_sets(rows, [MOST], wish[::-1]), kept)
        self.assertEqual([rows, wish], [[(1, 0), (0, 1), (0, 0)], HIGH])


class LeastRoundsTest(RoundsCase):
    def check(self, rows, councils, wish, rounds=None):
        number = self.check_rounds(rows, councils, wish)
        rounds = plain_rounds(rows, councils) if rounds is None else rounds
        meeting = [at for at, made in enumerate(rounds) if any(plain_meets(row, wish) for row in made)]
        self.assertEqual(number, meeting[0] if meeting else None)
        return number

    def test_example(self):
        check_examples(self, """
>>> from packedseats.councils import Council
>>> from packedseats.rounds import least_rounds
>>> seven, rows = Council([1] * 7, [4] * 4), [(0, 1, 1, 1), (1, 0, 1, 1), (1, 1, 0, 0)]
>>> least_rounds(rows, [seven], [(0, 'least', 1), (1, 'least', 1), (2, 'least', 1), (3, 'least', 1)])[:2]
('rounds', 1)
""")

    def test_against_all_sessions_round_by_round(self):
        chance = random.Random(252)
        numbers = []
        for _ in range(500):
            rows, councils = some_small_board(chance)
            width, rounds = councils[0].width(), plain_rounds(rows, councils)
            for wish in some_wishes(chance, rounds, width):
                numbers.append(self.check(rows, councils, wish, rounds))
        self.assertGreater(min(numbers.count(number) for number in (None, 0, 1)), 20)

    def test_boards_that_need_several_rounds(self):
        chance = random.Random(253)
        numbers = []
        for _ in range(60):
            rows, councils = slow_board(chance)
            sides = chance.sample(range(len(rows[0])), chance.randint(2, len(rows[0])))
            wish = [(column, *chance.choice([("least", 1), ("least", 1), ("most", 0)])) for column in sides]
            numbers.append(self.check(rows, councils, wish))
        self.assertGreater(min(numbers.count(number) for number in (1, 2)), 5)

    def test_told_rows_need_no_round(self):
        chance = random.Random(254)
        for _ in range(100):
            width = chance.randint(1, 6)
            rows = [some_row(chance, width, 0, 2) for _ in range(chance.randint(1, 40))]
            councils = [some_council(chance, width) for _ in range(chance.randint(0, 5))]
            row = chance.choice(rows)
            wish = [(*side, row[side[0]]) for side in
                    chance.sample(TWELVE_SIDES[:2 * width], chance.randint(0, min(4, 2 * width)))]
            found = least_rounds(rows, councils, wish)
            self.assertEqual(found[:2], ("rounds", 0))
            self.assertEqual(found[2][0], [])
            self.assertTrue(plain_meets(rows[found[2][1]], wish))

    def test_no_rows_no_bounds_no_councils(self):
        for councils in ([], [MEDIAN], [MEDIAN] * 5):
            self.assertEqual(least_rounds([], councils, []), ("never", []))
            self.assertEqual(least_rounds([], councils, HIGH), ("never", []))
            self.assertEqual(self.check([(0, 0)], councils, []), 0)
        self.assertEqual(least_rounds([(1, 0), (0, 1)], [], HIGH), ("never", HIGH))
        self.assertEqual(least_rounds([(1, 0), (0, 1)], [MEDIAN], HIGH), ("never", HIGH))

    def test_a_second_round_only_where_one_is_not_enough(self):
        rows = [tuple(int(column == other) for other in range(4)) for column in range(4)]
        wish = [(column, "least", 1) for column in range(4)]
        pair, four = Council([1, 1], [2] * 4), Council([1] * 4, [4] * 4)
        self.assertEqual(self.check(rows, [pair], wish), 2)
        self.assertEqual(self.check(rows, [pair, four], wish), 1)
        self.assertEqual(self.check(rows, [four], wish[::-1]), 1)
        self.assertEqual(self.check(rows, [pair], wish[:3]), 2)
        self.assertEqual(self.check(rows, [pair], wish[2:]), 1)
        self.assertEqual(self.check(rows + [(1, 1, 0, 0), (0, 0, 1, 1)], [pair], wish), 1)

    def test_the_number_is_the_first_level_with_the_whole_wish(self):
        chance = random.Random(255)
        numbers = []
        for _ in range(300):
            width = chance.randint(2, 6)
            rows = [some_row(chance, width, 0, 2) for _ in range(chance.randint(1, 40))]
            councils = [some_council(chance, width) for _ in range(chance.randint(0, 5))]
            wish = [(*side, 2 if side[1] == "least" else 0)
                    for side in chance.sample(TWELVE_SIDES[:2 * width], chance.randint(0, min(4, 2 * width)))]
            number = self.check_rounds(rows, councils, wish)
            levels = met_sets(rows, councils, wish)
            self.assertEqual([at for at, level in enumerate(levels) if level == [sorted(wish)]][:1],
                             [] if number is None else [number])
            self.assertTrue(all(level != after for level, after in zip(levels, levels[1:])))
            numbers.append(number)
        self.assertGreater(min(numbers.count(number) for number in (None, 0, 1)), 10)

    def test_one_round_joins_what_one_packing_of_few_told_rows_does(self):
        # With one row for each bound that misses only this one, one round is enough if the wish is heavy.
        chance = random.Random(256)
        answers = []
        for _ in range(200):
            width = chance.randint(2, 6)
            councils = [some_council(chance, width) for _ in range(chance.randint(1, 5))]
            sides = chance.sample(TWELVE_SIDES[:2 * width], chance.randint(2, 4))
            rows = []
            for column, way in sides:
                row = [1] * width
                row[column] = 0 if way == "least" else 2
                rows.append(tuple(row))
            heavy = any(plain_is_heavy(council, sides) for council in councils)
            self.assertEqual(self.check_rounds(rows, councils, [(*side, 1) for side in sides]), 1 if heavy else None)
            answers.append(heavy)
        self.assertGreater(min(answers.count(True), answers.count(False)), 30)

    def test_the_largest_inputs(self):
        chance = random.Random(257)
        numbers = []
        for greatest in (1, 5, 10 ** 6):
            for outer in (0, 3, 12):
                for _ in range(3):
                    rows = [some_row(chance, 6, -GREAT, GREAT) for _ in range(40)]
                    wish = [(column, "least", sorted(row[column] for row in rows)[39 - outer])
                            for column in chance.sample(range(6), 4)]
                    councils = [some_council(chance, 6, 7, greatest) for _ in range(5)]
                    numbers.append(self.check_rounds(rows, councils, wish))
                    self.ask(met_sets, rows, councils, wish)
        # Rows that meet any two of four bounds, and seats of which no two weigh the same.
        rows = [tuple(int(column in some) for column in range(6)) for some in subsets_of(range(4)) if len(some) == 2]
        wish = [(column, "least", 1) for column in range(4)]
        for _ in range(10):
            weights = [chance.randint(500000, 10 ** 6) for _ in range(7)]
            councils = [Council(weights, [chance.randint(2 * sum(weights) // 5, 3 * sum(weights) // 5)
                                          for _ in range(6)]) for _ in range(5)]
            numbers.append(self.check_rounds(rows, councils, wish))
            self.ask(met_sets, rows, councils, wish)
        self.assertLessEqual({None, 1, 2}, set(numbers))

    def test_same_question_again(self):
        rows, wish = [(1, 0), (0, 1), (0, 0)], list(HIGH)
        found, other = least_rounds(rows, [MOST], wish), least_rounds(rows, [MEDIAN], wish)
        kept = copy.deepcopy([found, other])
        self.assertEqual([found[0], other[0]], ["rounds", "never"])
        for _, seats in found[2][0]:
            seats.clear()
        found[2][0].clear()
        other[1].clear()
        least_rounds(rows[:1], [], [])
        self.assertEqual([least_rounds(rows, [MOST], wish), least_rounds(rows, [MEDIAN], wish)], kept)
        self.assertEqual([rows, wish], [[(1, 0), (0, 1), (0, 0)], HIGH])


if __name__ == "__main__":
    unittest.main()
