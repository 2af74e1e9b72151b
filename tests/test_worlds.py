"""Promises [73] and [74], and what [6] and [8] say of several worlds and of rows that are not known."""

import copy
import itertools
import random
import time
import unittest

from packedseats.councils import Council
from packedseats.wishes import decide, is_possible
from packedseats.worlds import decide_all, is_world_paper, withstood
from tests.plain import (
    GREAT, TWELVE_SIDES, check_examples, check_plan, nested, odd_values, plain_is_heavy, plain_made, plain_meets,
    some_council, some_row, some_small_board, some_wish, subsets_of,
)

MEDIAN = Council([1, 1, 1], [2])
LEAST = Council([1, 1], [1, 1])
HIGH = [(0, "least", 1)]


class WideCouncil:
    """The weights of a council, and its quotas several times over: it settles the rows of several worlds at once."""

    def __init__(self, council, worlds):
        self._council, self._worlds = council, worlds

    def weights(self):
        return self._council.weights()

    def quotas(self):
        return self._council.quotas() * self._worlds


def places_of(worlds):
    return [(at, bound) for at, (_, wish) in enumerate(worlds) for bound in sorted(wish)]


def is_light(councils, places):
    return not any(plain_is_heavy(council, [bound[:2] for _, bound in places]) for council in councils)


def is_missed_by_all(worlds, places):
    """Return whether each index has a row that misses a bound of the places in the world of this place."""
    many = len(worlds[0][0])
    return all(any(not plain_meets(worlds[at][0][row], [bound]) for at, bound in places) for row in range(many))


def plain_places(worlds, councils):
    """Return the places of [73], by going through all lists of places, or None if there are none."""
    for places in subsets_of(places_of(worlds)):
        if is_missed_by_all(worlds, places) and is_light(councils, places):
            return places
    return None


def can_be_met(worlds, councils):
    """Return whether sessions that are held in all worlds at once ever end with what all of them wish."""
    width = councils[0].width()
    wide = [sum(rows, ()) for rows in zip(*[rows for rows, _ in worlds])]
    made = plain_made(wide, [WideCouncil(council, len(worlds)) for council in councils])
    parts = [(slice(width * at, width * (at + 1)), wish) for at, (_, wish) in enumerate(worlds)]
    return any(all(plain_meets(row[part], wish) for part, wish in parts) for row in made)


def some_worlds(chance, width, many, rows, greatest, bounds):
    """Return so many worlds with so many rows, and with so many bounds together."""
    counts = [0] * many
    for _ in range(min(bounds, many * 2 * width)):
        counts[chance.choice([at for at in range(many) if counts[at] < 2 * width])] += 1
    told = [some_row(chance, width, 0, greatest) for _ in range(rows)]
    worlds = []
    for count in counts:
        # Most rows are the same in all worlds, so that a plan can suit all of them.
        changed = [row if chance.random() < 0.7 else some_row(chance, width, 0, greatest) for row in told]
        wish = [(*side, chance.randint(0, 1) if side[1] == "least" else chance.randint(greatest - 1, greatest))
                for side in chance.sample(TWELVE_SIDES[:2 * width], count)]
        worlds.append((changed, wish))
    return worlds


def worlds_with_few_misses(chance, width, many, rows, bounds):
    """Return worlds in which each row of ones is changed so that it misses one or two of all places."""
    sides = chance.sample([(at, side) for at in range(many) for side in TWELVE_SIDES[:2 * width]],
                          min(bounds, many * 2 * width))
    told = [[[1] * width for _ in range(rows)] for _ in range(many)]
    for row in range(rows):
        for at, (column, way) in chance.sample(sides, min(len(sides), chance.choice([1, 1, 1, 2]))):
            told[at][row][column] = 0 if way == "least" else 2
    wishes = [[(*side, 1) for other, side in sides if other == at] for at in range(many)]
    return [([tuple(row) for row in rows], wish) for rows, wish in zip(told, wishes)]


class WorldsCase(unittest.TestCase):
    def check(self, worlds, councils):
        """Check the answer but for which places it has; return these, or None if there is a plan."""
        kept = copy.deepcopy(worlds)
        start = time.perf_counter()
        found = decide_all(worlds, councils)
        self.assertLess(time.perf_counter() - start, 5)
        self.assertEqual(worlds, kept)
        self.assertEqual([type(found), len(found)], [tuple, 2])
        if found[0] == "plan":
            for rows, wish in worlds:
                check_plan(self, rows, councils, wish, found[1], 2 ** len(places_of(worlds)) - 1)
            return None
        self.assertEqual([found[0], type(found[1])], ["never", list])
        self.assertEqual(found[1], sorted(set(found[1])))
        self.assertLessEqual(set(found[1]), set(places_of(worlds)))
        self.assertTrue(is_missed_by_all(worlds, found[1]) and is_light(councils, found[1]))
        self.assertIs(is_world_paper(worlds, councils, found[1]), True)
        return found[1]


class DecideAllTest(WorldsCase):
    def test_example(self):
        check_examples(self, """
>>> from packedseats.councils import Council
>>> from packedseats.worlds import decide_all
>>> median, wish = Council([1, 1, 1], [2]), [(0, 'least', 1)]
>>> decide_all([([(1,), (0,)], wish), ([(0,), (1,)], wish)], [median])
('never', [(0, (0, 'least', 1)), (1, (0, 'least', 1))])
""")

    def test_against_all_lists_of_places(self):
        chance = random.Random(200)
        many = {"plan": 0, "never": 0}
        lengths = []
        while min(many.values()) < 120:
            width = chance.randint(1, 3)
            size = (chance.randint(1, 8), chance.randint(0, 6))
            if chance.random() < 0.5:
                worlds = some_worlds(chance, width, *size, chance.choice([1, 2]), chance.randint(0, 8))
            else:
                worlds = worlds_with_few_misses(chance, width, *size, chance.randint(1, 8))
            councils = [some_council(chance, width) for _ in range(chance.choice([0, 1, 1, 1, 2, 5]))]
            expected = plain_places(worlds, councils)
            self.assertEqual(self.check(worlds, councils), expected)
            many["plan" if expected is None else "never"] += 1
            lengths.append(-1 if expected is None else len(expected))
        self.assertGreater(min(lengths.count(length) for length in (0, 1, 2, 3)), 5)

    def test_against_all_sessions_in_all_worlds(self):
        chance = random.Random(201)
        answers = []
        while min(answers.count(True), answers.count(False)) < 60:
            many = chance.randint(1, 3)
            width = chance.randint(1, 2 if many == 1 else 1)
            worlds = some_worlds(chance, width, many, chance.randint(1, 3), 1, chance.randint(1, 4))
            councils = [some_council(chance, width, chance.choice([2, 3, 4]), chance.choice([1, 2, 3]))]
            answer = can_be_met(worlds, councils)
            self.assertIs(self.check(worlds, councils) is None, answer)
            answers.append(answer)

    def test_one_world_as_decide(self):
        chance = random.Random(202)
        for _ in range(200):
            rows, councils = some_small_board(chance)
            wish = some_wish(chance, councils[0].width(), 0, 3)
            kind, told = decide(rows, councils, wish)
            found = decide_all([(rows, wish)], councils)
            if kind == "plan":
                self.assertIsNone(self.check([(rows, wish)], councils))
            else:
                self.assertEqual(found, ("never", [(0, bound) for bound in told]))

    def test_worlds_with_the_same_rows_and_parts_of_a_wish(self):
        # Where all rows are the same, the worlds wish together what one world can wish.
        chance = random.Random(203)
        for _ in range(100):
            rows, councils = some_small_board(chance)
            wish = some_wish(chance, councils[0].width(), 0, 3)
            cut = chance.randint(0, len(wish))
            found = self.check([(rows, wish[:cut]), (list(rows), wish[cut:])], councils)
            kind, told = decide(rows, councils, wish)
            self.assertEqual(found is None, kind == "plan")
            if found is not None:
                self.assertEqual(len(found), len(told))

    def test_a_bound_counts_once_for_each_world(self):
        # The median withstands one row of three that is wrong, in whichever world.
        rows = [(1,), (1,), (1,)]
        worlds = [(rows[:at] + [(0,)] + rows[at + 1:], HIGH) for at in range(3)]
        self.assertIsNone(self.check(worlds, [MEDIAN]))
        self.assertEqual(self.check([(rows[:2], wish) for rows, wish in worlds], [MEDIAN]),
                         [(0, HIGH[0]), (1, HIGH[0])])
        self.assertEqual(self.check(worlds, []), [(0, HIGH[0]), (1, HIGH[0]), (2, HIGH[0])])
        # Five seats withstand two of five, seven seats three of seven, and never one more.
        for many, quota in ((5, 3), (7, 4)):
            council = Council([1] * many, [quota])
            told = [(1,)] * many
            wrong = list(itertools.combinations(range(many), quota - 1))[:8]
            worlds = [([(0,) if at in some else row for at, row in enumerate(told)], HIGH) for some in wrong]
            self.assertIsNone(self.check(worlds, [council]))

    def test_fewest_places_and_then_the_first_in_order(self):
        wish = [(1, "least", 1), (0, "least", 1)]
        high, low = [(1, 1), (1, 1)], [(1, 0), (1, 0)]
        councils = [Council([1, 1, 1], [2, 2])]
        self.assertEqual(self.check([(high, wish), (low, wish), (low, wish)], councils), [(1, (1, "least", 1))])
        split = [(1, 0), (0, 1)]
        self.assertEqual(self.check([(high, wish), (split, wish), (split, wish)], councils),
                         [(1, (0, "least", 1)), (1, (1, "least", 1))])
        mixed = [([(1, 1), (0, 0)], wish), ([(0, 1), (1, 1)], wish)]
        self.assertEqual(self.check(mixed, councils), [(0, (0, "least", 1)), (1, (0, "least", 1))])

    def test_no_rows_and_no_bounds(self):
        for many in (1, 2, 8):
            for councils in ([], [MEDIAN], [MEDIAN] * 5):
                self.assertEqual(decide_all([([], [])] * many, councils), ("never", []))
                self.assertEqual(decide_all([([], HIGH)] * many, councils), ("never", []))
                kind, (steps, end) = decide_all([([(0,), (1,)], [])] * many, councils)
                self.assertEqual([kind, steps], ["plan", []])
                self.assertIn(end, (0, 1))
                found = self.check([([(0,), (1,)], [])] * (many - 1) + [([(0,), (0,)], HIGH)], councils)
                self.assertEqual(found, [(many - 1, HIGH[0])])

    def test_one_to_eight_worlds_and_none_to_twelve_places(self):
        chance = random.Random(204)
        answers = []
        for many in range(1, 9):
            for bounds in range(13):
                width = chance.randint(2, 6)
                councils = [some_council(chance, width) for _ in range(chance.randint(0, 5))]
                rows = chance.randint(1, 40)
                self.check(some_worlds(chance, width, many, rows, 3, bounds), councils)
                answers.append(self.check(worlds_with_few_misses(chance, width, many, rows, bounds), councils) is None)
        self.assertGreater(min(answers.count(True), answers.count(False)), 15)

    def test_the_largest_inputs(self):
        chance = random.Random(205)
        answers = []
        for greatest in (1, 5, 10 ** 6):
            for many in (1, 2, 3, 8):
                councils = [some_council(chance, 6, 7, greatest) for _ in range(5)]
                worlds = worlds_with_few_misses(chance, 6, many, 40, 12)
                answers.append(self.check(worlds, councils) is None)
                answers.append(self.check(worlds, [Council([1] * 6 + [10 ** 6], [500000] * 6)] * 5) is None)
                far = [([tuple(GREAT * (1 if entry else -1) for entry in row) for row in rows],
                        [(column, way, 0) for column, way, _ in wish]) for rows, wish in worlds]
                self.check(far, councils)
        self.assertLessEqual({True, False}, set(answers))

    def test_somewhat_more_than_the_limits(self):
        chance = random.Random(207)
        for many, bounds in ((9, 13), (10, 12), (1, 12), (3, 14)):
            councils = [some_council(chance, 6) for _ in range(6)]
            self.check(worlds_with_few_misses(chance, 6, many, 45, bounds), councils)
        self.assertEqual(decide_all([], [MEDIAN]), ("never", []))
        self.assertIs(is_world_paper([], [MEDIAN], []), True)

    def test_same_question_again(self):
        rows = [(1,), (1,), (1,)]
        possible = [(rows[:at] + [(0,)] + rows[at + 1:], list(HIGH)) for at in range(3)]
        never = [([(1,), (0,)], list(HIGH)), ([(0,), (1,)], list(HIGH))]
        questions = copy.deepcopy([possible, never])
        found, other = decide_all(possible, [MEDIAN]), decide_all(never, [MEDIAN])
        kept = copy.deepcopy([found, other])
        self.assertEqual([found[0], other[0]], ["plan", "never"])
        for _, seats in found[1][0]:
            seats.clear()
        found[1][0].clear()
        other[1].clear()
        self.assertEqual([decide_all(possible, [MEDIAN]), decide_all(never, [MEDIAN])], kept)
        self.assertEqual([possible, never], questions)


class WorldPaperTest(WorldsCase):
    def test_all_lists_of_places(self):
        chance = random.Random(206)
        answers = []
        while min(answers.count(True), answers.count(False)) < 400:
            width = chance.randint(1, 2)
            worlds = some_worlds(chance, width, chance.randint(1, 3), chance.randint(0, 3), 1, chance.randint(0, 4))
            councils = [some_council(chance, width) for _ in range(chance.randint(0, 2))]
            for places in subsets_of(places_of(worlds)):
                expected = is_missed_by_all(worlds, places) and is_light(councils, places)
                self.assertIs(is_world_paper(worlds, councils, places), expected)
                answers.append(expected)

    def test_more_places_than_the_fewest(self):
        worlds = [([(1, 0), (0, 0)], [(0, "least", 1), (1, "least", 1)]), ([(1, 1), (0, 1)], [(0, "least", 1)])]
        places = [(0, (0, "least", 1)), (0, (1, "least", 1)), (1, (0, "least", 1))]
        self.assertEqual(decide_all(worlds, []), ("never", places[1:2]))
        for some, expected in ((places[1:2], True), (places[:2], True), (places[1:], True), (places, True),
                               (places[:1], False), (places[2:], False), (places[::2], False), ([], False)):
            self.assertIs(is_world_paper(worlds, [], some), expected)
        # Two bounds are light for the median, all three are heavy.
        median = Council([1, 1, 1], [2, 2])
        for some, expected in ((places[1:2], True), (places[:2], True), (places[1:], True), (places, False)):
            self.assertIs(is_world_paper(worlds, [median], some), expected)
            self.assertIs(is_world_paper(worlds, [LEAST, median], some), expected)

    def test_nearly_right_values(self):
        worlds = [([(0, 0), (1, 0)], [(1, "least", 1), (0, "least", 1)]), ([(1, 0), (0, 1)], [(0, "least", 1)])]
        low, high, other = (0, (0, "least", 1)), (0, (1, "least", 1)), (1, (0, "least", 1))
        for right in ([high], [low, high], [low, other], [high, other]):
            self.assertIs(is_world_paper(worlds, [], right), True)
        wrong = [
            [high, low], [other, low], [other, high], [high, high], [low, low, other], [low, other, other],
            [low], [other], [], (high,), (low, other), [list(high)], [low, list(other)], [(0, [1, "least", 1])],
            [(False, (1, "least", 1))], [low, (True, (0, "least", 1))], [(0, (True, "least", 1))],
            [(0, (1, "least", True))], [low, (1, (False, "least", 1))], [("0", (1, "least", 1))],
            [(0, ("1", "least", 1))], [(0, (1, "least", "1"))], [(0, (1, b"least", 1))], [(0, (1, "Least", 1))],
            [(0, (1, "most", 1))], [(0, (1, "least", 2))], [(0, (1, "least", 0))], [low, (2, (0, "least", 1))],
            [(-1, (0, "least", 1)), low], [(-2, (1, "least", 1))], [high, (1, (1, "least", 1))],
            [(2, (1, "least", 1))], [(10 ** 39, (1, "least", 1))], [(None, (1, "least", 1))], [(0, None)], [(0,)],
            [(1, "least", 1)], [(0, 1, "least", 1)], [(0, (1, "least", 1), 0)], [((0, (1, "least", 1)),)], [0, 1],
            [(0, (1, "least"))], [(0, (1, "least", 1, 1))], ["high"], [None], [[high]], {0: high}, {high}, "high",
            high, None, True, 0, [low, None], [high, 5], [((0,), (1, "least", 1))], [(0, (1, ["least"], 1))],
            [([0], (1, "least", 1))], [(0, ({}, "least", 1))],
        ]
        for thing in wrong:
            kept = copy.deepcopy(thing)
            self.assertIs(is_world_paper(worlds, [], thing), False, thing)
            self.assertEqual(thing, kept)

    def test_all_kinds_of_values(self):
        worlds = [([(0,), (1,)], HIGH), ([(1,), (0,)], HIGH)]
        for councils in ([], [MEDIAN], [MEDIAN] * 5):
            for thing in odd_values() + [nested(8, (0, (0, "least", 1))), [(0, nested(7))], [(nested(7), HIGH[0])]]:
                self.assertIs(is_world_paper(worlds, councils, thing), False)
            self.assertIs(is_world_paper(worlds, councils, [(0, HIGH[0]), (1, HIGH[0])]), True)

    def test_no_rows_and_no_bounds(self):
        for councils in ([], [MEDIAN], [MEDIAN] * 5):
            self.assertIs(is_world_paper([([], [])], councils, []), True)
            self.assertIs(is_world_paper([([], []), ([], HIGH)], councils, []), True)
            self.assertIs(is_world_paper([([], []), ([], HIGH)], councils, [(1, HIGH[0])]), True)
            self.assertIs(is_world_paper([([], []), ([], HIGH)], councils, [(0, HIGH[0])]), False)
            self.assertIs(is_world_paper([([(1,)], [])], councils, []), False)

    def test_arguments_and_the_same_question_again(self):
        worlds = [([(0,), (1,)], list(HIGH)), ([(1,), (0,)], list(HIGH))]
        thing = [(0, HIGH[0]), (1, HIGH[0])]
        for _ in range(3):
            self.assertIs(is_world_paper(worlds, [MEDIAN], thing), True)
            self.assertIs(is_world_paper(worlds, [MEDIAN], thing[:1]), False)
        self.assertEqual(worlds, [([(0,), (1,)], HIGH), ([(1,), (0,)], HIGH)])
        self.assertEqual(thing, [(0, HIGH[0]), (1, HIGH[0])])


def plain_withstood(rows, councils, wish):
    """Return the answer of [74], by going through all lists of bounds."""
    best = None
    for length in range(1, 13):
        for bounds in itertools.combinations_with_replacement(sorted(wish), length):
            if any(plain_is_heavy(council, [bound[:2] for bound in bounds]) for council in councils):
                continue
            indexes = [at for at, row in enumerate(rows) if plain_meets(row, bounds)]
            number = (len(indexes) - 1) // length
            # Of lists with the same number the first one that is gone through stays.
            if best is None or number < best[0]:
                best = (number, list(bounds), indexes)
    return best


def worlds_with_wrong_rows(rows, wish, wrong):
    """Return a world for each group of so many rows, in which these rows miss all bounds of the wish."""
    width = max(column for column, _, _ in wish) + 1
    missing = [0] * width
    for column, way, value in wish:
        missing[column] = value - 1 if way == "least" else value + 1
    worlds = []
    for group in itertools.combinations(range(len(rows)), wrong):
        worlds.append(([tuple(missing) if at in group else row for at, row in enumerate(rows)], wish))
    return worlds


class WithstoodTest(unittest.TestCase):
    def ask(self, rows, councils, wish):
        kept = copy.deepcopy([rows, wish])
        start = time.perf_counter()
        found = withstood(rows, councils, wish)
        self.assertLess(time.perf_counter() - start, 5)
        self.assertEqual([rows, wish], kept)
        self.assertEqual([type(found), *map(type, found)], [tuple, int, list, list])
        return found

    def check(self, rows, councils, wish):
        found = self.ask(rows, councils, wish)
        self.assertEqual(found, plain_withstood(rows, councils, wish))
        return found

    def test_example(self):
        check_examples(self, """
>>> from packedseats.councils import Council
>>> from packedseats.worlds import withstood
>>> withstood([(1,), (2,), (3,), (0,)], [Council([1, 1, 1], [2])], [(0, 'least', 1)])
(1, [(0, 'least', 1), (0, 'least', 1)], [0, 1, 2])
""")

    def test_against_all_lists(self):
        chance = random.Random(210)
        numbers, lengths = [], []
        for _ in range(300):
            width = chance.randint(1, 4)
            rows = [some_row(chance, width, 0, 3) for _ in range(chance.randint(0, 12))]
            councils = [some_council(chance, width) for _ in range(chance.choice([0, 1, 1, 2, 5]))]
            wish = [(*side, chance.randint(-1, 1) if side[1] == "least" else chance.randint(2, 4))
                    for side in chance.sample(TWELVE_SIDES[:2 * width], chance.randint(1, 2))]
            found = self.check(rows, councils, wish)
            numbers.append(found[0])
            lengths.append(len(found[1]))
        self.assertGreater(min(numbers.count(number) for number in (-1, 0, 1, 2)), 10)
        self.assertGreater(min(lengths.count(length) for length in (1, 2, 3)), 5)
        self.assertGreater(max(lengths), 5)

    def test_three_and_four_bounds(self):
        chance = random.Random(211)
        numbers = []
        for bounds in (3,) * 12 + (4,) * 6:
            width = chance.randint(2, 6)
            rows = [some_row(chance, width, 0, 5) for _ in range(12)]
            councils = [some_council(chance, width) for _ in range(chance.choice([1, 2]))]
            wish = [(*side, 1 if side[1] == "least" else 4)
                    for side in chance.sample(TWELVE_SIDES[:2 * width], bounds)]
            numbers.append(self.check(rows, councils, wish)[0])
        self.assertGreater(len(set(numbers)), 2)

    def test_impossible_wishes(self):
        chance = random.Random(212)
        answers = []
        for _ in range(400):
            rows, councils = some_small_board(chance)
            width = councils[0].width()
            wish = some_wish(chance, width, 0, 2, chance.randint(1, min(4, 2 * width)))
            number, bounds, indexes = self.ask(rows, councils, wish)
            possible = is_possible(rows, councils, wish)
            self.assertEqual(number >= 0, possible)
            if not possible:
                paper = decide(rows, councils, wish)[1]
                self.assertEqual((number, bounds, indexes), (-1, paper or sorted(wish)[:1], []))
            answers.append(possible)
        self.assertGreater(min(answers.count(True), answers.count(False)), 80)

    def test_no_rows_no_councils_and_one_council_several_times(self):
        for councils in ([], [MEDIAN], [MEDIAN] * 5):
            self.assertEqual(self.check([], councils, HIGH), (-1, HIGH, []))
            self.assertEqual(self.check([(0,)], councils, HIGH), (-1, HIGH, []))
        for many in range(1, 13):
            rows = [(at,) for at in range(1, many + 1)]
            # All lists are light without councils, and the shortest one with the least number is wanted.
            self.assertEqual(self.check(rows, [], HIGH),
                             (0, HIGH * many, list(range(many))))
            self.assertEqual(self.check(rows, [MEDIAN], HIGH), self.check(rows, [MEDIAN] * 5, HIGH))
            self.assertEqual(withstood(rows, [MEDIAN], HIGH)[0], (many - 1) // 2)
            self.assertEqual(withstood(rows, [Council([1] * 7, [4])], HIGH)[0], (many - 1) // 2)
            self.assertEqual(withstood(rows, [Council([1, 1], [2])], HIGH), (many - 1, HIGH, list(range(many))))
        self.assertEqual(withstood([(1,)] * 12, [Council([1, 1, 1, 3], [4])], HIGH)[0], 11)

    def test_a_plan_withstands_just_so_many_wrong_rows(self):
        chance = random.Random(213)
        numbers = []
        while min([numbers.count(number) for number in (-1, 0, 1)]) < 15:
            width = chance.randint(1, 2)
            rows = [some_row(chance, width, 0, 1) for _ in range(chance.randint(1, 4))]
            councils = [some_council(chance, width, chance.randint(2, 5), chance.choice([1, 2, 3]))
                        for _ in range(chance.randint(1, 2))]
            columns = chance.sample(range(width), chance.randint(1, width))
            wish = [(column, *chance.choice([("least", 1), ("most", 0)])) for column in columns]
            if not all(any(not plain_meets(row, [bound]) for row in rows) for bound in wish):
                continue
            number = self.ask(rows, councils, wish)[0]
            numbers.append(number)
            self.check_plans(rows, councils, wish, number)

    def check_plans(self, rows, councils, wish, number):
        for wrong in range(len(rows) + 1):
            worlds = worlds_with_wrong_rows(rows, wish, wrong)
            kind, plan = decide_all(worlds, councils)
            self.assertEqual(kind == "plan", wrong <= number)
            if kind == "plan":
                self.check_replaced(rows, councils, wish, plan, wrong)

    def check_replaced(self, rows, councils, wish, plan, wrong):
        """Check that the plan meets the wish whichever so many rows are replaced, by all rows of some entries."""
        width = len(rows[0])
        any_rows = list(itertools.product([-1, 0, 1, 2], repeat=width))
        for group in itertools.combinations(range(len(rows)), wrong):
            for others in itertools.islice(itertools.product(any_rows, repeat=wrong), 300):
                replaced = [others[group.index(at)] if at in group else row for at, row in enumerate(rows)]
                check_plan(self, replaced, councils, wish, plan, 4095)

    def test_against_all_sessions_with_wrong_rows(self):
        chance = random.Random(214)
        answers = []
        while min(answers.count(True), answers.count(False)) < 25:
            rows = [some_row(chance, 1, 0, 1) for _ in range(chance.randint(2, 4))]
            councils = [some_council(chance, 1, chance.randint(2, 4), chance.choice([1, 2]))]
            number = self.ask(rows, councils, HIGH)[0]
            if all(plain_meets(row, HIGH) for row in rows):
                continue
            for wrong in range(min(3, len(rows))):
                worlds = worlds_with_wrong_rows(rows, HIGH, wrong)
                if len(worlds) <= 4:
                    answer = can_be_met(worlds, councils)
                    self.assertEqual(answer, wrong <= number)
                    answers.append(answer)

    def test_somewhat_more_than_the_limits(self):
        # With thirteen rows that meet the bound, a list of thirteen bounds would have the number 0.
        self.assertEqual(self.check([(1,)] * 13, [], HIGH), (1, HIGH * 7, list(range(13))))
        self.assertEqual(self.check([(1,)] * 15, [MEDIAN], HIGH)[0], 7)
        for rows in ([], [(1,)] * 3):
            for councils in ([], [MEDIAN]):
                number, bounds, indexes = self.ask(rows, councils, [])
                self.assertEqual([bounds, indexes], [[], list(range(len(rows)))])
                self.assertEqual(number >= 0, is_possible(rows, councils, []))
        rows, wish = [(1,) * 6] * 13, [(column, "least", 1) for column in range(6)]
        found = self.ask(rows, [Council([1, 1, 1], [2] * 6)], wish)
        self.assertEqual(found, (6, [wish[0]] * 2, list(range(13))))

    def test_the_largest_inputs(self):
        chance = random.Random(215)
        for greatest in (1, 5, 10 ** 6):
            for outer in (0, 1, 2):
                rows = [some_row(chance, 6, -GREAT, GREAT) for _ in range(12)]
                councils = [some_council(chance, 6, 7, greatest) for _ in range(5)]
                wish = [(*side, sorted(row[side[0]] for row in rows)[outer if side[1] == "least" else -1 - outer])
                        for side in chance.sample(TWELVE_SIDES, 4)]
                number, bounds, indexes = self.ask(rows, councils, wish)
                self.assertEqual(bounds, sorted(bounds))
                self.assertEqual(indexes, [at for at, row in enumerate(rows) if plain_meets(row, bounds)])
                self.assertEqual(number, (len(indexes) - 1) // len(bounds))
                self.assertFalse(any(plain_is_heavy(council, [bound[:2] for bound in bounds]) for council in councils))
        # A seat that outweighs all allowances makes every list light.
        heavy = [Council([1] * 6 + [10 ** 6], [500000] * 6)] * 5
        wish = [(column, "least", 0) for column in range(4)]
        self.assertEqual(self.ask([(0,) * 6] * 12, heavy, wish), (0, [wish[0]] * 12, list(range(12))))

    def test_same_question_again(self):
        rows, wish, councils = [(1, 0), (2, 2), (0, 1)], [(1, "least", 1), (0, "least", 1)], [LEAST]
        found = withstood(rows, councils, wish)
        kept = copy.deepcopy(found)
        found[1].clear()
        found[2].append(7)
        withstood(rows[1:], [], wish[1:])[1].clear()
        self.assertEqual(withstood(rows, councils, wish), kept)
        self.assertEqual(withstood(rows, councils, wish[::-1]), kept)
        self.assertEqual([rows, wish], [[(1, 0), (2, 2), (0, 1)], [(1, "least", 1), (0, "least", 1)]])


if __name__ == "__main__":
    unittest.main()
