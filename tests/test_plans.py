"""Promise [50], and what [3] and [4] say of following a plan."""

import copy
import random
import unittest

from packedseats.councils import Council
from packedseats.errors import BadStep, CouncilError
from packedseats.plans import follow
from tests.plain import GREAT, check_examples, nested, odd_values, plain_settle, some_council, some_row

LEAST = Council([1, 1], [1, 1])
MEDIAN = Council([1, 1, 1], [2, 2])
ROWS = [(2, 0), (0, 2), (1, 1)]


def some_plan(chance, rows, councils, steps):
    """Return a plan of so many steps for the shelf, which uses told rows and earlier steps."""
    made = []
    for at in range(steps):
        council = chance.randrange(len(councils))
        made.append((council, [chance.randrange(len(rows) + at) for _ in range(len(councils[council]))]))
    return (made, chance.randrange(len(rows) + steps))


def plain_follow(rows, councils, plan):
    known = list(rows)
    for council, seats in plan[0]:
        seated = [known[seat] for seat in seats]
        known.append(plain_settle(councils[council].weights(), councils[council].quotas(), seated))
    return (known[len(rows):], known[plan[1]])


class PlansTest(unittest.TestCase):
    def check(self, rows, councils, plan):
        kept = copy.deepcopy([rows, plan])
        found = follow(rows, councils, plan)
        self.assertEqual(found, plain_follow(rows, councils, plan))
        self.assertEqual([type(found), type(found[0])], [tuple, list])
        self.assertEqual([rows, plan], kept)
        return found

    def check_refused(self, at, plan, rows=None, councils=None):
        """Check that the plan raises BadStep(at), and stays as it is."""
        rows, councils = ROWS if rows is None else rows, [MEDIAN, LEAST] if councils is None else councils
        written = repr(plan)
        with self.assertRaises(CouncilError) as caught:
            follow(rows, councils, plan)
        self.assertIs(type(caught.exception), BadStep)
        self.assertEqual(caught.exception.at, at)
        self.assertEqual(repr(plan), written)

    def check_step_refused(self, step):
        """Check that the step is refused at each place, before a later wrong step and a wrong end."""
        good = [(0, [0, 1, 2]), (1, [0, 3])]
        self.check_refused(0, ([step], 0))
        self.check_refused(2, ([*good, step], 0))
        self.check_refused(1, ([good[0], step, good[1]], 0))
        self.check_refused(1, ([good[0], step, None, good[1]], "end"))

    def test_examples(self):
        check_examples(self, """
>>> from packedseats.councils import Council
>>> from packedseats.plans import follow
>>> follow([(2, 0), (0, 2), (1, 1)], [Council([1, 1, 1], [1, 2])], ([(0, [0, 1, 2]), (0, [3, 3, 0])], 4))
([(0, 1), (0, 1)], (0, 1))
>>> from packedseats.councils import Council
>>> from packedseats.plans import follow
>>> follow([(2, 0)], [Council([1, 1], [1, 2])], ([(0, [0, 1])], 0))
raises BadStep(0)
""")

    def test_no_steps(self):
        for end in range(3):
            self.assertEqual(self.check(ROWS, [MEDIAN], ([], end)), ([], ROWS[end]))
        self.assertEqual(self.check(ROWS, [], ([], 1)), ([], (0, 2)))

    def test_each_end(self):
        steps = [(0, [0, 1, 2]), (1, [3, 0])]
        rows = [*ROWS, (1, 1), (1, 0)]
        for end in range(5):
            self.assertEqual(self.check(ROWS, [MEDIAN, LEAST], (steps, end)), ([(1, 1), (1, 0)], rows[end]))

    def test_references_to_told_rows_and_steps(self):
        steps = [(1, [0, 1]), (1, [3, 2]), (0, [4, 4, 1]), (0, [5, 0, 2]), (1, [6, 6])]
        self.check(ROWS, [MEDIAN, LEAST], (steps, 7))

    def test_against_sessions(self):
        chance = random.Random(60)
        for _ in range(200):
            width = chance.randint(1, 6)
            rows = [some_row(chance, width, 0, 9) for _ in range(chance.randint(1, 8))]
            councils = [some_council(chance, width) for _ in range(chance.randint(1, 5))]
            self.check(rows, councils, some_plan(chance, rows, councils, chance.randint(0, 12)))

    def test_great_entries(self):
        chance = random.Random(61)
        for _ in range(20):
            rows = [some_row(chance, 6, -GREAT, GREAT) for _ in range(40)] + [(GREAT,) * 6, (-GREAT,) * 6]
            councils = [some_council(chance, 6, 7) for _ in range(5)]
            self.check(rows, councils, some_plan(chance, rows, councils, 60))

    def test_longest_plan(self):
        chance = random.Random(62)
        councils = [some_council(chance, 2, 7), MEDIAN]
        plan = some_plan(chance, ROWS, councils, 4095)
        self.check(ROWS, councils, plan)
        self.check(ROWS, councils, (plan[0], 3 + 4094))
        self.check_refused(4095, (plan[0], 3 + 4095), councils=councils)
        longer = ([*plan[0], plan[0][0]], 0)
        self.check_refused(0, longer, councils=councils)
        self.check_refused(0, ([None] * 4096, 0), councils=councils)
        self.check_refused(4094, ([*plan[0][:-1], None], 0), councils=councils)

    def test_what_is_no_plan(self):
        steps = [(0, [0, 1, 2])]
        for thing in odd_values():
            self.check_refused(0, thing)
        for thing in ((steps,), (steps, 0, 0), [steps, 0], (tuple(steps), 0), ({0: steps[0]}, 0), ("", 0), (None, 0),
                      (0, steps), steps, (), ([],), {0: steps, 1: 0}, ((0, [0, 1, 2]), 0), (set(), 0), (b"", 0)):
            self.check_refused(0, thing)

    def test_what_is_no_step(self):
        for thing in odd_values():
            self.check_step_refused(thing)
        for thing in ((0, [0, 1, 2], 0), (0,), [0, [0, 1, 2]], (0, (0, 1, 2)), ([0, 1, 2], 0), (0, 0), (0, "012"),
                      (0, {0: 0, 1: 1, 2: 2}), (0, [[0, 1, 2]]), (0, b"\x00\x01\x02"), (0, None)):
            self.check_step_refused(thing)

    def test_seats_too_few_or_too_many(self):
        for seats in ([], [0], [0, 1], [0, 1, 2, 0], [0] * 7, list(range(3)) * 10):
            self.check_step_refused((0, seats))
        for seats in ([], [0], [0, 1, 2]):
            self.check_step_refused((1, seats))

    def test_councils_that_there_are_not(self):
        for council in (2, 3, -1, -2, 10 ** 39, -10 ** 39, True, False, "0", "", None, (0,), [0], MEDIAN, b"0"):
            self.check_step_refused((council, [0, 1]))
            self.check_step_refused((council, [0, 1, 2]))
        self.check_refused(0, ([(0, [0, 0])], 0), councils=[])

    def test_references_that_there_are_not(self):
        for seat in (-1, -3, -4, 10 ** 39, -10 ** 39, True, False, "0", "", None, (0,), [0], (2, 0), nested(4, 0)):
            for at in range(3):
                seats = [0, 1, 2]
                seats[at] = seat
                self.check_step_refused((0, seats))

    def test_references_to_the_own_and_to_later_steps(self):
        good = [(0, [0, 1, 2]), (0, [3, 3, 0]), (0, [4, 3, 2])]
        for at in range(3):
            for reference in range(3 + at, 8):
                for seat in range(3):
                    seats = [0, 1, 2]
                    seats[seat] = reference
                    self.check_refused(at, ([*good[:at], (0, seats), *good[at + 1:]], 0))
            self.check(ROWS, [MEDIAN], ([*good[:at], (0, [2 + at] * 3), *good[at + 1:]], 0))

    def test_ends_that_there_are_not(self):
        for steps in ([], [(0, [0, 1, 2])], [(0, [0, 1, 2])] * 4):
            for end in odd_values() + [-1, -3, 3 + len(steps), 4 + len(steps), 10 ** 39, -10 ** 39, "0", (0,), [0]]:
                self.check_refused(len(steps), (steps, end))

    def test_empty_shelf(self):
        for end in (0, -1, 1):
            self.check_refused(0, ([], end), rows=[])
        self.check_refused(0, ([(0, [0, 0, 0])], 0), rows=[])

    def test_first_of_several_faults(self):
        self.check_refused(1, ([(0, [0, 1, 2]), (0, [4, 0, 0]), (9, [])], 99))
        self.check_refused(2, ([(0, [0, 1, 2]), (0, [3, 0, 0]), (9, [])], None))
        self.check_refused(0, ([(0, [0, 1, True])] * 4095, None))

    def test_same_question_again(self):
        councils = [MEDIAN, LEAST]
        plan, other = ([(0, [0, 1, 2]), (1, [3, 0])], 4), ([(1, [1, 1])], 3)
        first = follow(ROWS, councils, plan)
        kept = copy.deepcopy(first)
        first[0].clear()
        self.assertEqual(follow(ROWS, councils, plan), kept)
        follow(ROWS, councils, other)[0].append(None)
        self.assertEqual(follow(ROWS, councils, plan), kept)
        self.assertEqual(follow(ROWS[::-1], councils, plan), plain_follow(ROWS[::-1], councils, plan))
        self.check_refused(1, ([(0, [0, 1, 2]), (0, [0, 1, 9])], 0))
        self.assertEqual(follow(ROWS, councils, plan), kept)
        self.assertEqual([plan, ROWS], [([(0, [0, 1, 2]), (1, [3, 0])], 4), [(2, 0), (0, 2), (1, 1)]])


if __name__ == "__main__":
    unittest.main()
