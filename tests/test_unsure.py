"""Promise [72], and what [8] says of uncertain rows."""

import copy
import itertools
import math
import random
import time
import unittest

from packedseats.councils import Council
from packedseats.unsure import sure
from packedseats.wishes import decide
from tests.plain import (
    GREAT, TWELVE_SIDES, check_examples, check_plan, some_council, some_row, some_small_board, some_wish,
)

MEDIAN = Council([1, 1, 1], [2, 2])
LEAST = Council([1, 1], [1, 1])


def box_of(row, other):
    """Return the box that has these two rows as corners."""
    return tuple((min(pair), max(pair)) for pair in zip(row, other))


def some_boxes(chance, width, many, greatest):
    """Return boxes with entries to greatest: single rows, narrow ones and wide ones."""
    boxes = []
    for _ in range(many):
        row, spread = some_row(chance, width, 0, greatest), chance.choice([0, 0, 1, greatest])
        other = tuple(min(greatest, entry + chance.randint(0, spread)) for entry in row)
        boxes.append(box_of(row, other))
    return boxes


def corners_of(boxes):
    """Return all lists of rows whose entries are outer ones of the boxes."""
    every = [itertools.product(*[sorted({low, high}) for low, high in box]) for box in boxes]
    return [list(rows) for rows in itertools.product(*every)]


def how_many_in(boxes):
    return math.prod(high - low + 1 for box in boxes for low, high in box)


def rows_in(boxes):
    """Return all lists of rows that lie in the boxes."""
    every = [itertools.product(*[range(low, high + 1) for low, high in box]) for box in boxes]
    return [list(rows) for rows in itertools.product(*every)]


def drawn_rows(chance, boxes):
    return [tuple(chance.randint(low, high) for low, high in box) for box in boxes]


class UnsureTest(unittest.TestCase):
    def check(self, boxes, councils, wish):
        """Check the answer but for which paper it is; return the paper, or None if the wish is sure."""
        kept = copy.deepcopy([boxes, wish])
        found = sure(boxes, councils, wish)
        self.assertEqual([boxes, wish], kept)
        self.assertIs(type(found), tuple)
        if found[0] == "sure":
            self.assertEqual(len(found), 2)
            chance = random.Random(repr(boxes))
            for rows in [drawn_rows(chance, boxes) for _ in range(5)] + self.outer_rows(boxes):
                check_plan(self, rows, councils, wish, found[1])
            return None
        word, paper, rows = found
        self.assertEqual([word, type(paper), type(rows)], ["unsure", list, list])
        self.assertEqual([len(rows), {type(row) for row in rows}], [len(boxes), {tuple for _ in boxes}])
        for row, box in zip(rows, boxes):
            self.assertEqual(len(row), len(box))
            self.assertTrue(all(low <= entry <= high for entry, (low, high) in zip(row, box)))
        self.assertEqual(decide(rows, councils, wish), ("never", paper))
        return paper

    def outer_rows(self, boxes):
        if sum(low < high for box in boxes for low, high in box) <= 5:
            return corners_of(boxes)
        return [[tuple(pair[way] for pair in box) for box in boxes] for way in (0, 1)]

    def test_example(self):
        check_examples(self, """
>>> from packedseats.councils import Council
>>> from packedseats.unsure import sure
>>> sure([((0, 5), (3, 3))], [Council([1, 1, 1], [2, 2])], [(0, 'least', 1), (1, 'least', 3)])[:2]
('unsure', [(0, 'least', 1)])
""")

    def test_against_all_rows_in_the_boxes(self):
        chance = random.Random(140)
        many = {"sure": 0, "unsure": 0}
        while min(many.values()) < 120:
            width = chance.randint(1, 2)
            boxes = some_boxes(chance, width, chance.randint(0, 3), 2)
            if how_many_in(boxes) > 300:
                continue
            councils = [some_council(chance, width) for _ in range(chance.randint(0, 2))]
            wish = some_wish(chance, width, 0, 2)
            answers = [decide(rows, councils, wish) for rows in rows_in(boxes)]
            papers = [answer[1] for answer in answers if answer[0] == "never"]
            paper = self.check(boxes, councils, wish)
            self.assertEqual(paper, min(papers, key=lambda some: (len(some), some)) if papers else None)
            many["unsure" if papers else "sure"] += 1

    def test_wider_boards_against_all_corners(self):
        # A row in a box that misses a bound can be exchanged for a corner that does.
        chance = random.Random(141)
        many = {"sure": 0, "unsure": 0}
        while min(many.values()) < 40:
            width = chance.randint(3, 4)
            boxes = some_boxes(chance, width, chance.randint(1, 4), 3)
            if sum(low < high for box in boxes for low, high in box) > 7:
                continue
            councils = [some_council(chance, width) for _ in range(chance.randint(1, 2))]
            wish = [(*side, chance.choice([0, 1]) if side[1] == "least" else chance.choice([2, 3]))
                    for side in chance.sample(TWELVE_SIDES[:2 * width], chance.randint(1, 6))]
            answers = [decide(rows, councils, wish) for rows in corners_of(boxes)]
            papers = [answer[1] for answer in answers if answer[0] == "never"]
            paper = self.check(boxes, councils, wish)
            self.assertEqual(paper, min(papers, key=lambda some: (len(some), some)) if papers else None)
            many["unsure" if papers else "sure"] += 1

    def test_single_rows_as_decide(self):
        chance = random.Random(142)
        for _ in range(200):
            rows, councils = some_small_board(chance)
            wish = some_wish(chance, councils[0].width(), 0, 3)
            boxes = [box_of(row, row) for row in rows]
            kind, answer = decide(rows, councils, wish)
            if kind == "plan":
                self.assertEqual(sure(boxes, councils, wish), ("sure", answer))
            else:
                self.assertEqual(sure(boxes, councils, wish), ("unsure", answer, rows))

    def test_no_boxes_and_no_bounds(self):
        for councils in ([], [MEDIAN], [MEDIAN] * 5):
            self.assertEqual(sure([], councils, []), ("unsure", [], []))
            self.assertEqual(sure([], councils, [(0, "least", 1)]), ("unsure", [], []))
            self.assertIsNone(self.check([((0, 5), (3, 3))], councils, []))
            self.assertIsNone(self.check([((-GREAT, GREAT), (-GREAT, GREAT))] * 40, councils, []))

    def test_bounds_at_the_edges_of_a_box(self):
        boxes = [((2, 5), (-1, -1))]
        for bound, is_sure in (((0, "least", 2), True), ((0, "least", 3), False), ((0, "most", 5), True),
                               ((0, "most", 4), False), ((1, "least", -1), True), ((1, "most", -1), True),
                               ((1, "least", 0), False), ((1, "most", -2), False)):
            self.assertEqual(self.check(boxes, [MEDIAN], [bound]), None if is_sure else [bound])

    def test_each_box_misses_a_bound_of_its_own(self):
        # No box surely meets both bounds, and each one surely meets one of them.
        boxes, wish = [((5, 5), (0, 9)), ((0, 9), (5, 5))], [(0, "least", 5), (1, "least", 5)]
        self.assertEqual(self.check(boxes, [MEDIAN], wish), wish)
        self.assertIsNone(self.check(boxes, [Council([1, 1], [2, 2])], wish))
        self.assertEqual(self.check(boxes, [LEAST], wish), wish)
        # Only one row of each box is wanted by this wish, and no box is sure of a bound.
        self.assertEqual(self.check(boxes, [MEDIAN], [(0, "least", 9), (1, "least", 9)]), [(0, "least", 9)])
        self.assertEqual(self.check(boxes, [MEDIAN], [(0, "most", 4), (1, "least", 5)]), [(0, "most", 4)])

    def test_a_wider_box_never_makes_an_unsure_wish_sure(self):
        chance = random.Random(143)
        many = 0
        while many < 150:
            width = chance.randint(1, 6)
            boxes = some_boxes(chance, width, chance.randint(1, 10), 9)
            councils = [some_council(chance, width) for _ in range(chance.randint(1, 3))]
            wish = some_wish(chance, width, 0, 9, chance.randint(1, 2 * width))
            if self.check(boxes, councils, wish) is None:
                continue
            many += 1
            at, column = chance.randrange(len(boxes)), chance.randrange(width)
            low, high = boxes[at][column]
            wider = (low - chance.randint(0, 3), high + chance.randint(0, 3))
            boxes[at] = (*boxes[at][:column], wider, *boxes[at][column + 1:])
            self.assertIsNotNone(self.check(boxes, councils, wish))

    def test_forty_boxes_and_twelve_bounds(self):
        chance = random.Random(144)
        answers = []
        for greatest in (1, 5, 10 ** 6):
            councils = [some_council(chance, 6, 7, greatest) for _ in range(chance.choice([1, 5]))]
            for spread in (0, GREAT // 50, GREAT // 4, GREAT):
                rows = [some_row(chance, 6, -GREAT, GREAT) for _ in range(40)]
                boxes = [box_of(row, tuple(min(GREAT, entry + chance.randint(0, spread)) for entry in row))
                         for row in rows]
                for outer in (0, 8, 19):
                    wish = [(*side, sorted(row[side[0]] for row in rows)[outer if side[1] == "least" else -1 - outer])
                            for side in TWELVE_SIDES]
                    start = time.perf_counter()
                    sure(boxes, councils, wish)
                    self.assertLess(time.perf_counter() - start, 5)
                    answers.append(self.check(boxes, councils, chance.sample(wish, 12)) is None)
        self.assertGreater(min(answers.count(True), answers.count(False)), 3)

    def test_one_to_five_councils_and_wishes_of_up_to_twelve_bounds(self):
        chance = random.Random(145)
        answers = []
        for many in range(6):
            for bounds in range(13):
                boxes = some_boxes(chance, 6, chance.randint(2, 40), 9)
                councils = [some_council(chance, 6) for _ in range(many)]
                wish = [(*side, chance.randint(0, 8) if side[1] == "least" else chance.randint(1, 9))
                        for side in chance.sample(TWELVE_SIDES, bounds)]
                answers.append(self.check(boxes, councils, wish) is None)
        self.assertGreater(min(answers.count(True), answers.count(False)), 15)

    def test_same_question_again(self):
        boxes, wish = [((0, 5), (3, 3)), ((2, 2), (0, 1))], [(1, "least", 2), (0, "least", 1)]
        councils, unlikely = [Council([1, 1], [2, 2])], [(0, "least", 4), (1, "least", 2)]
        found, other = sure(boxes, councils, wish), sure(boxes, councils, unlikely)
        kept = copy.deepcopy([found, other])
        self.assertEqual([found[0], other[0]], ["sure", "unsure"])
        for _, seats in found[1][0]:
            seats.clear()
        found[1][0].clear()
        other[1].clear()
        other[2].clear()
        self.assertEqual([sure(boxes, councils, wish), sure(boxes, councils, unlikely)], kept)
        self.assertEqual([boxes, wish], [[((0, 5), (3, 3)), ((2, 2), (0, 1))], [(1, "least", 2), (0, "least", 1)]])


if __name__ == "__main__":
    unittest.main()
