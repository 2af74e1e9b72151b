"""Promises [51] and [52], and what [5] and [6] say of plans, papers and packings."""

import copy
import itertools
import random
import time
import unittest

from packedseats.councils import Council
from packedseats.lightness import light_sets
from packedseats.plans import follow
from packedseats.wishes import decide, is_paper, is_possible
from tests.plain import (
    GREAT, TWELVE_SIDES, check_examples, check_plan, nested, odd_values, plain_is_heavy, plain_made, plain_meets,
    plain_paper, some_council, some_row, some_small_board, some_wish, subsets_of,
)

MILLION = 10 ** 6
LEAST = Council([1, 1], [1, 1])
MEDIAN = Council([1, 1, 1], [2, 2])
CORNERS = [(2, 0), (0, 2)]


def is_light(councils, bounds):
    return not any(plain_is_heavy(council, [bound[:2] for bound in bounds]) for council in councils)


def row_meeting(wish, some, width):
    """Return a row that meets these bounds of the wish, and of those on other columns none."""
    row = [0] * width
    for column, way, value in sorted(wish, key=lambda bound: bound in some):
        miss = 0 if (column, way, value) in some else -1 if way == "least" else 1
        row[column] = value + miss
    return tuple(row)


class WishesTest(unittest.TestCase):
    def check(self, rows, councils, wish):
        """Check the answer by the definitions; return whether the wish is possible."""
        kept = copy.deepcopy([rows, wish])
        found, paper = decide(rows, councils, wish), plain_paper(rows, councils, wish)
        self.assertEqual([type(found), len(found)], [tuple, 2])
        if paper is None:
            self.assertEqual(found[0], "plan")
            end = check_plan(self, rows, councils, wish, found[1])
            self.assertEqual(follow(rows, councils, found[1])[1], end)
        else:
            self.assertEqual(found, ("never", paper))
            self.assertIs(is_paper(rows, councils, wish, found[1]), True)
        self.assertIs(is_possible(rows, councils, wish), paper is None)
        self.assertEqual([rows, wish], kept)
        return paper is None

    def test_examples(self):
        check_examples(self, """
>>> from packedseats.councils import Council
>>> from packedseats.wishes import decide
>>> median = Council([1, 1, 1], [2, 2])
>>> [decide([(2, 0), (0, 2)], [median], [(1, 'least', 1), (0, 'least', 1)]), decide([], [median], [])]
[('never', [(0, 'least', 1), (1, 'least', 1)]), ('never', [])]
>>> from packedseats.councils import Council
>>> from packedseats.wishes import is_possible
>>> median = Council([1, 1, 1], [2, 2, 2])
>>> is_possible([(1, 1, 0), (1, 0, 1), (0, 1, 1)], [median], [(0, 'least', 1), (1, 'least', 1), (2, 'least', 1)])
True
""")

    def test_against_all_sessions(self):
        chance = random.Random(70)
        answers = []
        for _ in range(250):
            rows, councils = some_small_board(chance)
            width, made = councils[0].width(), plain_made(rows, councils)
            for _ in range(6):
                wish = some_wish(chance, width, 0, 3)
                answer = self.check(rows, councils, wish)
                self.assertIs(answer, any(plain_meets(row, wish) for row in made))
                answers.append(answer)
        self.assertGreater(min(answers.count(True), answers.count(False)), 300)

    def test_wishes_that_need_sessions(self):
        chance = random.Random(71)
        many = 0
        while many < 100:
            rows, councils = some_small_board(chance)
            made = plain_made(rows, councils)
            for row in sorted(made - set(rows)):
                wish = [(column, way, entry) for column, entry in enumerate(row) for way in ("most", "least")]
                self.assertIs(self.check(rows, councils, wish), True)
                self.assertEqual(check_plan(self, rows, councils, wish, decide(rows, councils, wish)[1]), row)
                many += 1

    def test_every_wish_of_a_board(self):
        rows, councils = [(2, 0), (0, 1), (1, 2)], [Council([2, 1, 1], [2, 3])]
        made = plain_made(rows, councils)
        bounds = [[None, *[(*side, value) for value in range(-1, 4)]] for side in TWELVE_SIDES[:4]]
        for chosen in itertools.product(*bounds):
            wish = [bound for bound in chosen if bound]
            found = decide(rows, councils, wish)
            self.assertIs(found[0] == "plan", any(plain_meets(row, wish) for row in made))
            self.assertIs(found[0] == "plan", is_possible(rows, councils, wish))
            if found[0] == "plan":
                check_plan(self, rows, councils, wish, found[1])
            else:
                self.assertEqual(found[1], plain_paper(rows, councils, wish))

    def test_fewest_bounds_and_then_the_first_in_order(self):
        median = Council([1, 1, 1], [2, 2, 2])
        wish = [(2, "least", 1), (1, "most", -1), (0, "most", 0), (0, "least", 0)]
        self.assertEqual(decide([(0, 0, 0)], [median], wish), ("never", [(1, "most", -1)]))
        corners, wish = [(2, 0, 0), (0, 2, 0), (0, 0, 2)], [(2, "least", 1), (1, "least", 1), (0, "least", 1)]
        # All pairs are papers of the first shelf; one bound alone is a paper of the second one.
        self.assertEqual(decide(corners, [median], wish), ("never", [(0, "least", 1), (1, "least", 1)]))
        self.assertEqual(decide(corners[:2], [median], wish), ("never", [(2, "least", 1)]))
        rows = [(1, 1, 0), (1, 0, 1), (1, 0, 0)]
        self.assertEqual(decide(rows, [median], wish), ("never", [(1, "least", 1), (2, "least", 1)]))

    def test_one_side_before_two_and_least_before_most(self):
        self.assertEqual(decide([(1,)], [LEAST.part([0])], [(0, "most", 0), (0, "least", 2)]),
                         ("never", [(0, "least", 2)]))
        self.assertEqual(decide([(1,)], [], [(0, "most", 0), (0, "least", 1)]), ("never", [(0, "most", 0)]))
        self.assertEqual(decide([(1,), (3,)], [], [(0, "most", 2), (0, "least", 2)]),
                         ("never", [(0, "least", 2), (0, "most", 2)]))

    def test_empty_shelf_and_empty_wish(self):
        chance = random.Random(72)
        for councils in ([], [MEDIAN], [LEAST, MEDIAN] * 2):
            self.assertEqual(decide([], councils, []), ("never", []))
            self.assertEqual(decide([], councils, some_wish(chance, 2, 0, 3, 4)), ("never", []))
            self.assertIs(is_possible([], councils, []), False)
            self.assertEqual(decide([(5, 5)], councils, []), ("plan", ([], 0)))
            kind, (steps, end) = decide([(5, 5), (0, 0)], councils, [])
            self.assertEqual([kind, steps], ["plan", []])
            self.assertIn(end, (0, 1))

    def test_no_councils(self):
        chance = random.Random(73)
        for _ in range(100):
            rows = [some_row(chance, 3, 0, 3) for _ in range(chance.randint(0, 5))]
            wish = some_wish(chance, 3, 0, 3)
            self.assertIs(self.check(rows, [], wish), any(plain_meets(row, wish) for row in rows))

    def test_one_to_five_councils(self):
        chance = random.Random(74)
        for _ in range(150):
            width = chance.randint(1, 4)
            rows = [some_row(chance, width, 0, 3) for _ in range(chance.randint(1, 6))]
            councils = [some_council(chance, width) for _ in range(chance.randint(1, 5))]
            self.check(rows, councils, some_wish(chance, width, 0, 3))

    def test_a_plan_that_needs_two_councils(self):
        # Of two entries, the one council takes the greater one in columns 0 and 1, the other one in columns 1 and 2.
        councils = [Council([1, 1], [2, 2, 1]), Council([1, 1], [1, 2, 2])]
        rows, wish = [(1, 0, 1), (0, 1, 0)], [(0, "least", 1), (1, "least", 1), (2, "least", 1)]
        self.assertIs(self.check(rows, councils, wish), True)
        steps = decide(rows, councils, wish)[1][0]
        self.assertEqual({council for council, _ in steps}, {0, 1})
        self.assertEqual([self.check(rows, [council], wish) for council in councils], [False, False])

    def test_councils_of_which_one_seat_outweighs_all(self):
        chance = random.Random(75)
        dictator = Council([MILLION, 1, 1, 1, 1, 1, 1], [MILLION, 10, 500, 7, 7, 8])
        for _ in range(60):
            rows = [some_row(chance, 6, 0, 2) for _ in range(chance.randint(1, 12))]
            wish = some_wish(chance, 6, 0, 2, chance.randint(0, 8))
            self.assertIs(self.check(rows, [dictator], wish), any(plain_meets(row, wish) for row in rows))

    def test_wishes_of_none_to_twelve_bounds(self):
        chance = random.Random(76)
        for bounds in range(13):
            for _ in range(4):
                rows = [some_row(chance, 6, 0, 9) for _ in range(chance.randint(5, 40))]
                councils = [some_council(chance, 6) for _ in range(chance.randint(1, 3))]
                sides = chance.sample(TWELVE_SIDES, bounds)
                wish = [(*side, chance.randint(0, 6) if side[1] == "least" else chance.randint(3, 9)) for side in sides]
                self.check(rows, councils, wish)
                exact = [(*side, rows[0][side[0]]) for side in sides]
                self.check(rows[1:], councils, exact)

    def test_wishes_in_any_order(self):
        rows, wish = [(1, 0), (0, 1), (2, 2)], [(0, "least", 1), (0, "most", 1), (1, "least", 1), (1, "most", 1)]
        for order in itertools.permutations(wish):
            self.assertEqual(decide(rows, [MEDIAN], list(order)), decide(rows, [MEDIAN], wish))
            self.assertEqual(decide(CORNERS, [MEDIAN], list(order)), decide(CORNERS, [MEDIAN], wish))

    def test_great_entries(self):
        chance = random.Random(77)
        for _ in range(10):
            rows = [some_row(chance, 6, -GREAT, GREAT) for _ in range(40)]
            councils = [some_council(chance, 6, 7) for _ in range(chance.randint(1, 5))]
            middle = [sorted(row[column] for row in rows) for column in range(6)]
            wish = [(column, "least", middle[column][15]) for column in range(6)]
            wish += [(column, "most", middle[column][30]) for column in range(6)]
            self.check(rows, councils, chance.sample(wish, 12))
            self.check(rows, councils, [(column, way, GREAT if way == "least" else -GREAT) for column, way, _ in wish])

    def test_a_row_for_each_greatest_light_subset(self):
        chance = random.Random(78)
        many = 0
        while many < 25:
            width = chance.randint(2, 6)
            councils = [some_council(chance, width) for _ in range(chance.randint(1, 2))]
            wish = [(column, chance.choice(["least", "most"]), chance.randint(-9, 9)) for column in range(width)]
            greatest = light_sets(councils, [bound[:2] for bound in wish])
            rows = [row_meeting(wish, [bound for bound in wish if bound[:2] in sides], width) for sides in greatest]
            if not 1 < len(rows) <= 40:
                continue
            many += 1
            self.assertIs(self.check(rows, councils, wish), True)
            for at in range(len(rows)):
                self.assertIs(self.check(rows[:at] + rows[at + 1:], councils, wish), False)

    def test_twelve_bounds_and_a_row_for_each_greatest_light_subset(self):
        wish = [(column, way, 5) for column, way in TWELVE_SIDES]
        for council in (Council([1] * 7, [1, 2, 3, 4, 5, 6]), Council([3, 3, 2, 2, 2, 1, 1], [3, 3, 12, 12, 7, 7]),
                        Council([1] * 7, [2] * 6), Council([9, 1, 1, 1, 1, 1, 1], [10, 7, 7, 7, 7, 7])):
            # A row that is to meet none of the bounds on a column meets both: it cannot miss both.
            rows = [tuple(5 + ((column, "least") in sides) - ((column, "most") in sides) for column in range(6))
                    for sides in light_sets([council], TWELVE_SIDES)]
            self.assertLessEqual(len(rows), 40)
            self.assertIs(self.check(rows, [council], wish), True)
            for at in range(len(rows)):
                self.check(rows[:at] + rows[at + 1:], [council], wish)

    def test_more_never_makes_a_possible_wish_impossible(self):
        chance = random.Random(79)
        many = 0
        while many < 100:
            rows, councils = some_small_board(chance)
            width = councils[0].width()
            wish = some_wish(chance, width, 0, 3)
            if not is_possible(rows, councils, wish):
                continue
            many += 1
            self.assertIs(is_possible(rows + [some_row(chance, width, 0, 3)], councils, wish), True)
            self.assertIs(is_possible(rows, councils + [some_council(chance, width)], wish), True)
            for at in range(len(wish)):
                self.assertIs(is_possible(rows, councils, wish[:at] + wish[at + 1:]), True)

    def test_made_rows_add_nothing(self):
        chance = random.Random(80)
        for _ in range(40):
            rows, councils = some_small_board(chance)
            made = sorted(plain_made(rows, councils))[:20]
            for _ in range(5):
                wish = some_wish(chance, councils[0].width(), 0, 3)
                self.assertIs(is_possible(rows + made, councils, wish), is_possible(rows, councils, wish))

    def test_the_largest_inputs(self):
        chance = random.Random(81)
        for greatest in (1, 3, 40, MILLION, MILLION):
            rows = [some_row(chance, 6, -GREAT, GREAT) for _ in range(40)]
            councils = [some_council(chance, 6, 7, greatest) for _ in range(5)]
            for kept in (0, 20, 39):
                wish = [(*side, sorted(row[side[0]] for row in rows)[kept]) for side in TWELVE_SIDES]
                start = time.perf_counter()
                found = decide(rows, councils, wish[::-1])
                self.assertIs(is_possible(rows, councils, wish), found[0] == "plan")
                self.assertLess(time.perf_counter() - start, 5)
                if found[0] == "plan":
                    check_plan(self, rows, councils, wish, found[1])
                else:
                    self.assertIs(is_paper(rows, councils, wish, found[1]), True)

    def test_same_question_again(self):
        councils, rows = [MEDIAN, LEAST.mirrored()], [(2, 0), (0, 2)]
        possible, impossible = [(0, "least", 1), (1, "least", 1)], [(0, "most", 1), (1, "most", 1)]
        kind, plan = decide(rows, councils, possible)
        never, paper = decide(rows, councils, impossible)
        kept = copy.deepcopy([plan, paper])
        self.assertEqual([kind, never], ["plan", "never"])
        for _, seats in plan[0]:
            seats.clear()
        plan[0].clear()
        paper.clear()
        self.assertEqual([decide(rows, councils, possible), decide(rows, councils, impossible)],
                         [("plan", kept[0]), ("never", kept[1])])
        self.assertEqual([rows, possible, impossible], [[(2, 0), (0, 2)], [(0, "least", 1), (1, "least", 1)],
                                                        [(0, "most", 1), (1, "most", 1)]])

    def test_no_list_stands_at_two_places(self):
        chance = random.Random(82)
        for _ in range(200):
            rows = [some_row(chance, 4, 0, 3) for _ in range(8)]
            councils = [some_council(chance, 4)]
            kind, answer = decide(rows, councils, some_wish(chance, 4, 0, 3, chance.randint(2, 8)))
            if kind == "plan":
                lists = [answer[0]] + [seats for _, seats in answer[0]]
                self.assertEqual(len({id(some) for some in lists}), len(lists))


class PaperTest(unittest.TestCase):
    def test_all_subsets_against_the_definition(self):
        chance = random.Random(83)
        for _ in range(80):
            rows, councils = some_small_board(chance)
            wish = some_wish(chance, councils[0].width(), 0, 3)
            for some in subsets_of(sorted(wish)):
                right = is_light(councils, some) and not any(plain_meets(row, some) for row in rows)
                self.assertIs(is_paper(rows, councils, wish, some), right)
                if some != some[::-1]:
                    self.assertIs(is_paper(rows, councils, wish, some[::-1]), False)
                if some:
                    self.assertIs(is_paper(rows, councils, wish, some + some[-1:]), False)
                    self.assertIs(is_paper(rows, councils, wish, tuple(some)), False)

    def test_papers_of_more_bounds_than_the_least(self):
        wish = [(0, "least", 3), (1, "least", 1), (1, "most", 1)]
        self.assertEqual(decide(CORNERS, [MEDIAN], wish), ("never", wish[:1]))
        self.assertIs(is_paper(CORNERS, [MEDIAN], wish, wish[:1]), True)
        self.assertIs(is_paper(CORNERS, [MEDIAN], wish, wish[:2]), True)
        self.assertIs(is_paper(CORNERS, [MEDIAN], wish, wish[1:]), True)
        # The whole wish is heavy for the median, as are three sides always.
        self.assertIs(is_paper(CORNERS, [MEDIAN], wish, wish), False)
        self.assertIs(is_paper(CORNERS, [], wish, wish), True)

    def test_heavy_for_one_of_the_councils(self):
        wish = [(0, "most", 1), (1, "most", 1)]
        for at in range(5):
            councils = [MEDIAN] * at + [LEAST] + [MEDIAN] * (4 - at)
            self.assertIs(is_paper(CORNERS, councils, wish, wish), False)
        self.assertIs(is_paper(CORNERS, [MEDIAN] * 5, wish, wish), True)

    def test_met_by_one_told_row(self):
        wish = [(0, "most", 1), (1, "most", 1)]
        for at in range(3):
            rows = CORNERS[:at] + [(1, 1)] + CORNERS[at:]
            self.assertIs(is_paper(rows, [MEDIAN], wish, wish), False)
        self.assertIs(is_paper([], [MEDIAN], wish, []), True)
        self.assertIs(is_paper(CORNERS, [MEDIAN], wish, []), False)

    def test_what_only_resembles_a_paper(self):
        wish = [(1, "most", 1), (0, "least", 1)]
        rows, paper = [(0, 0), (1, 2)], [(0, "least", 1), (1, "most", 1)]
        self.assertIs(is_paper(rows, [MEDIAN], wish, paper), True)
        first, second = paper
        for thing in (
            [second, first], wish, [first, first, second], [first, second, second], (first, second), {0: first},
            [list(first), second], [first, list(second)], [[*first], [*second]], [first[:2], second[:2]],
            [(False, "least", 1), second], [(0, "least", True), second], [first, (True, "most", 1)],
            [first, (1, "most", True)], [("0", "least", 1), second], [(0, "least", "1"), second],
            [(0, b"least", 1), second], [(0, "Least", 1), second], [(0, "least ", 1), second], [(0, None, 1), second],
            [(0, "least", 2), second], [(0, "most", 1), second], [first, (1, "most", 0)], [(0, "least", 0), first],
            [first, second, (2, "least", 0)], [(-1, "least", 1), first, second], [None, first, second],
            [first, second, None], [(*first, 1), second], [[first, second]], [(first, second)], [first, [second]],
            "paper", {first, second}, {first: second}, ((0, "least", 1),), [()], [[]], [""], [0], [True],
        ):
            self.assertIs(is_paper(rows, [MEDIAN], wish, thing), False, thing)

    def test_values_of_all_kinds(self):
        for thing in odd_values() + [nested(3, (0, "least", 1)), MEDIAN, [MEDIAN], [(0, "least", MEDIAN)]]:
            written = repr(thing)
            self.assertIs(is_paper(CORNERS, [MEDIAN], [(0, "least", 3)], thing), False)
            self.assertIs(is_paper([], [], [], thing), False)
            self.assertEqual(repr(thing), written)
        self.assertIs(is_paper([], [], [], []), True)

    def test_great_values(self):
        rows, wish = [(GREAT - 1, -GREAT + 1)], [(0, "least", GREAT), (1, "most", -GREAT)]
        self.assertIs(is_paper(rows, [LEAST], wish, wish[:1]), True)
        self.assertIs(is_paper(rows, [LEAST], wish, [(0, "least", GREAT + 1)]), False)
        self.assertIs(is_paper([(GREAT, 0)], [LEAST], wish, wish[:1]), False)

    def test_nothing_is_changed(self):
        rows, wish, paper = list(CORNERS), [(1, "least", 1), (0, "least", 1)], [(0, "least", 1), (1, "least", 1)]
        councils = [MEDIAN]
        for _ in range(2):
            self.assertIs(is_paper(rows, councils, wish, paper), True)
        self.assertEqual([rows, wish, paper, councils],
                         [CORNERS, [(1, "least", 1), (0, "least", 1)], [(0, "least", 1), (1, "least", 1)], [MEDIAN]])


if __name__ == "__main__":
    unittest.main()
