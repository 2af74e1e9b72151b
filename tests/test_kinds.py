"""Promise [21], and the definitions of [2] behind it."""

import copy
import unittest

from packedseats import kinds
from packedseats.kinds import is_bound, is_integer, is_name, is_row, is_side, is_value, is_wish
from tests.plain import GREAT, check_examples, nested, odd_values

WIDTHS = range(1, 7)
WIDE = (is_row, is_side, is_bound, is_wish)
TWELVE = [(column, way, 3 - column) for column in range(6) for way in ("least", "most")]


class KindsTest(unittest.TestCase):
    def check(self, function, right, wrong, *width):
        """Check that the function says True of all that is right and False of all that is wrong."""
        for things, answer in ((right, True), (wrong, False)):
            for thing in things:
                with self.subTest(function=function.__name__, thing=repr(thing)[:80], width=width):
                    self.assertIs(function(thing, *width), answer)

    def test_examples(self):
        check_examples(self, """
>>> from packedseats.kinds import is_bound, is_wish
>>> [is_bound((1, 'least', 3), 2), is_bound((2, 'least', 3), 2), is_wish([(0, 'most', 1), (0, 'most', 2)], 2)]
[True, False, False]
""")

    def test_integers(self):
        right = [0, 1, -1, 6, GREAT, -GREAT, GREAT + 1, -GREAT - 1, 10 ** 39, -(10 ** 40 - 1), 10 ** 40, 10 ** 60]
        self.check(is_integer, right, odd_values() + ["1", [1], (1,), {1: 1}, b"1"])

    def test_values(self):
        right = [0, 1, -1, GREAT - 1, 1 - GREAT, GREAT, -GREAT]
        wrong = [GREAT + 1, -GREAT - 1, 10 ** 39, -(10 ** 39), 10 ** 40, -(10 ** 60), "0", [0], (0,)]
        self.check(is_value, right, wrong + odd_values())

    def test_names(self):
        right = ["a", "z", "ann", "abcdefgh", "zzzzzzzz", "least"]
        wrong = [
            "", "abcdefghi", "a" * 30000, "Ann", "anN", "ANN", "ann1", "1", "a b", " a", "a ", "a\n", "\na", "a_b", "a-b",
            "`", "{", "a`", "a{", b"ann", ["a"], ("a",), {"a": 1}, ["a", "n", "n"], 1,
        ]
        self.check(is_name, right, wrong + [thing for thing in odd_values() if thing != "least"])

    def test_rows(self):
        for width in WIDTHS:
            row = tuple([column - 2 for column in range(width)])
            right = [row, (0,) * width, (GREAT,) * width, (-GREAT,) * width]
            wrong = [
                row[1:], row + (0,), list(row), (), row * 2, (row,), [row], row[1:] + (True,), (False,) + row[1:],
                row[1:] + (GREAT + 1,), (-GREAT - 1,) + row[1:], row[1:] + (None,), row[1:] + ("1",),
                row[1:] + ((1,),), row[1:] + ([1],), dict.fromkeys(range(width)), "a" * width, bytes(width),
            ]
            self.check(is_row, right, wrong + odd_values(), width)

    def test_sides(self):
        for width in WIDTHS:
            right = [(column, way) for column in range(width) for way in ("least", "most")]
            wrong = [
                (width, "least"), (width, "most"), (-1, "least"), (-1, "most"), (-width, "most"), (10 ** 39, "least"),
                (True, "least"), (False, "most"), ("0", "least"), (None, "least"), ((0,), "least"), ([], "most"),
                (0, "Least"), (0, "MOST"), (0, "least "), (0, "mos"), (0, ""), (0, "equal"), (0, "\n"), (0, b"least"),
                (0, None), (0, 0), (0, True), (0, ["least"]), (0, ("least",)), (0, {}), (0, set()), (0, nested(7)),
                [0, "least"], ("least", 0), (0,), ("least",), (), (0, "least", 1), (0, 0, "least"), ((0, "least"),),
                [(0, "least")], {0: "least"},
            ]
            self.check(is_side, right, wrong + odd_values(), width)

    def test_bounds(self):
        for width in WIDTHS:
            sides = [(column, way) for column in range(width) for way in ("least", "most")]
            right = [(*side, value) for side in sides for value in (0, -7, 7, GREAT, -GREAT)]
            wrong = [
                (width, "least", 0), (-1, "most", 0), (True, "least", 0), (False, "least", 0), ("0", "most", 0),
                (0, "at", 0), (0, "", 0), (0, "Most", 0), (0, b"most", 0), (0, None, 0), (0, ["most"], 0), (0, {}, 0),
                (0, "least", GREAT + 1), (0, "most", -GREAT - 1), (0, "least", 10 ** 39), (0, "least", True),
                (0, "most", False), (0, "least", None), (0, "least", "0"), (0, "least", [0]), (0, "most", (0,)),
                [0, "least", 0], (0, "least"), (0, "least", 0, 0), (), ("least", 0, 0), (0, 0, "least"),
                ((0, "least"), 0), ((0, "least", 0),), [(0, "least", 0)], {0: 1, "least": 2, 1: 3},
            ]
            self.check(is_bound, right, wrong + odd_values(), width)

    def test_wishes(self):
        for width in WIDTHS:
            every = TWELVE[:2 * width]
            right = [[], every, every[::-1], every[1::2] + every[::2], every[:1], every[-1:]]
            right.append([(0, "least", 5), (0, "most", -5)])
            wrong = [
                every + every[:1], every[:1] * 2, [(0, "most", 1), (0, "most", 2)],
                [(0, "least", 1), (0, "most", 1), (0, "least", 2)], tuple(every), (), every + [None], [None] + every,
                [list(bound) for bound in every], [every], every + [(width, "least", 0)], every + [(-1, "least", 0)],
                [(True, "most", 0)], [(0, "most", False)], [(0, "most", GREAT + 1)], [(0, "up", 1)], [(0, "least")],
                (0, "least", 1), {(0, "least", 1): 1}, {(0, "least", 1)}, [(0, "least", 1)] * 5000, [[]], [()],
                [(0, ["least"], 1)], [(0, "least", [1])],
            ]
            self.check(is_wish, right, wrong + odd_values(), width)

    def test_a_width_decides_about_columns(self):
        for width in WIDTHS:
            for column in range(8):
                self.assertIs(is_side((column, "most"), width), column < width)
                self.assertIs(is_bound((column, "least", 1), width), column < width)
                self.assertIs(is_wish([(column, "least", 1)], width), column < width)
            for length in range(8):
                self.assertIs(is_row((1,) * length, width), length == width)

    def test_things_are_not_changed(self):
        things = [nested(8), [(0, "least", 1), (0, "most", 2)], [[1, 2], {"a": [3]}], {"a": [1, (2, [3])]}, {1, 2}]
        for thing in things:
            before = copy.deepcopy(thing)
            for name in ("is_integer", "is_value", "is_name"):
                getattr(kinds, name)(thing)
            for function in WIDE:
                function(thing, 2)
            self.assertEqual(thing, before)

    def test_the_answer_is_the_same_each_time(self):
        for function in WIDE:
            for thing in ([(1, "most", 0)], (1, "most", 0), (1, "most"), (1, 0)):
                self.assertEqual(function(thing, 2), function(thing, 2))


if __name__ == "__main__":
    unittest.main()
