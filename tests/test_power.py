"""Promises [80] to [82], and what [9] says of the power of councils."""

import copy
import itertools
import random
import time
import unittest

from packedseats.councils import Council
from packedseats.lightness import heavy_sets
from packedseats.listing import is_made
from packedseats.packings import packing
from packedseats.power import compare, fewest, same_power, witness_rows
from packedseats.sessions import settle
from packedseats.wishes import decide
from tests.plain import TWELVE_SIDES, check_examples, plain_is_heavy, plain_made, plain_meets, some_council, subsets_of

LEAST, MEDIAN, FIVE = Council([1, 1], [1, 1]), Council([1, 1, 1], [2, 2]), Council([1] * 5, [3, 3])
RULED = Council([1, 1, 5], [4, 4])


def heavy_groups(council):
    """Return for each list of sides of the width, as a tuple in order, whether it is heavy by packings of this test."""
    heavy = {}
    for sides in subsets_of(TWELVE_SIDES[:2 * council.width()]):
        part = any(heavy[(*sides[:at], *sides[at + 1:])] for at in range(len(sides)))
        heavy[tuple(sides)] = part or plain_is_heavy(council, sides)
    return heavy


class Heavy:
    """Keeps the answers for each council, as they are asked for again and again."""

    def __init__(self):
        self._kept = {}

    def of(self, council):
        key = repr(council)
        if key not in self._kept:
            self._kept[key] = heavy_groups(council)
        return self._kept[key]


HEAVY = Heavy()


def more_sides(councils, others):
    """Return the fewest sides, of several the first ones, that are heavy for one of councils and light for others."""
    able, unable = [HEAVY.of(council) for council in councils], [HEAVY.of(council) for council in others]
    for sides in HEAVY.of((councils + others)[0]):
        if any(heavy[sides] for heavy in able) and not any(heavy[sides] for heavy in unable):
            return list(sides)
    return None


def plain_compare(council, councils):
    sides = more_sides([council], councils)
    if sides is not None:
        return ("more", sides)
    heavy, table = HEAVY.of(council), []
    for some in sorted(heavy):
        if heavy[some] and not any(heavy[(*some[:at], *some[at + 1:])] for at in range(len(some))):
            table.append((list(some), [HEAVY.of(other)[some] for other in councils].index(True)))
    return ("nothing", table)


def plain_same_power(councils, others):
    for which, (able, unable) in enumerate([(councils, others), (others, councils)]):
        sides = more_sides(able, unable) if able else None
        if sides is not None:
            return (which, sides)
    return None


def plain_fewest(councils):
    for many in range(len(councils) + 1):
        found = [list(group) for group in itertools.combinations(range(len(councils)), many)
                 if more_sides(councils, [councils[at] for at in group]) is None]
        if found:
            return found


def some_councils(chance, width, many):
    """Return so many councils, some of which are often much like others."""
    councils = []
    for _ in range(many):
        council = some_council(chance, width)
        if councils and chance.random() < 0.5:
            other = chance.choice(councils)
            quotas = [min(quota + chance.choice([0, 0, 1]), other.total()) for quota in other.quotas()]
            council = Council(other.weights(), quotas)
        councils.append(council)
    return councils


class WitnessTest(unittest.TestCase):
    def test_example(self):
        check_examples(self, """
>>> from packedseats.power import witness_rows
>>> witness_rows(2, [(0, 'most'), (1, 'least')])
[(2, 1), (1, 0)]
""")

    def test_each_row_misses_its_own_bound_alone(self):
        chance = random.Random(220)
        for width in range(1, 7):
            every = TWELVE_SIDES[:2 * width]
            for sides in [[], every, every[::-1]] + [chance.sample(every, chance.randint(0, 2 * width))
                                                     for _ in range(30)]:
                kept = list(sides)
                rows = witness_rows(width, sides)
                self.assertEqual([type(rows), len(rows), sides], [list, len(sides), kept])
                self.assertTrue(all(plain_meets((1,) * width, [(*side, 1)]) for side in sides))
                for row, (column, way) in zip(rows, sides):
                    expected = [1] * width
                    expected[column] = {"least": 0, "most": 2}[way]
                    self.assertEqual(row, tuple(expected))
                    self.assertEqual([side for side in every if not plain_meets(row, [(*side, 1)])], [(column, way)])

    def test_lists_are_new(self):
        sides = [(0, "most"), (1, "least")]
        found = witness_rows(2, sides)
        found.clear()
        self.assertEqual(witness_rows(2, sides), [(2, 1), (1, 0)])
        self.assertEqual(sides, [(0, "most"), (1, "least")])


class CompareTest(unittest.TestCase):
    def check(self, council, councils):
        kept = [repr(council), repr(councils)]
        start = time.perf_counter()
        found = compare(council, councils)
        self.assertLess(time.perf_counter() - start, 5)
        self.assertEqual([repr(council), repr(councils)], kept)
        self.assertEqual(found, plain_compare(council, councils))
        self.assertEqual([type(found), type(found[1])], [tuple, list])
        if found[0] == "more":
            self.check_witnesses(council, councils, found[1])
        else:
            self.assertEqual([sides for sides, _ in found[1]],
                             heavy_sets([council], TWELVE_SIDES[:2 * council.width()]))
            self.assertEqual({type(entry) for entry in found[1]}, {tuple for _ in found[1]})
        return found

    def check_witnesses(self, council, councils, sides):
        """Check that the council makes the row of ones from the witness rows, and that the others never do."""
        rows, ones = witness_rows(council.width(), sides), (1,) * council.width()
        seats = [rows[place] for place in packing(council, sides)]
        self.assertEqual(settle(council, seats), ones)
        self.assertIs(is_made(rows, [council], ones), True)
        self.assertIs(is_made(rows, councils, ones), False)
        self.assertEqual(decide(rows, councils, [(*side, 1) for side in sides])[0], "never")

    def test_examples(self):
        check_examples(self, """
>>> from packedseats.councils import Council
>>> from packedseats.power import compare
>>> least, median, five = Council([1, 1], [1, 1]), Council([1, 1, 1], [2, 2]), Council([1] * 5, [3, 3])
>>> [compare(least, [median]), compare(five, [least, median])[0]]
[('more', [(0, 'most'), (1, 'most')]), 'nothing']
""")

    def test_against_all_sets_of_sides(self):
        chance = random.Random(221)
        answers = []
        for width, many in ((1, 60), (2, 120), (3, 80), (4, 30), (5, 8)):
            for _ in range(many):
                councils = some_councils(chance, width, chance.randint(1, 6))
                answers.append(self.check(councils[-1], councils[:-1])[0])
        self.assertGreater(min(answers.count("more"), answers.count("nothing")), 60)

    def test_width_six(self):
        chance = random.Random(222)
        answers = []
        for seats in (2, 3, 5, 7, 7):
            councils = [some_council(chance, 6, seats) for _ in range(5)]
            answers.append(self.check(councils[0], councils[1:])[0])
            answers.append(self.check(councils[0], councils[::-1])[0])
        self.assertLessEqual({"more", "nothing"}, set(answers))

    def test_the_least_index(self):
        sides = TWELVE_SIDES[:4]
        # Any three of the four sides are heavy for five equal seats, and the other one is heavy for both "most" sides.
        expected = [([sides[at] for at in some], index)
                    for some, index in (((0, 1, 2), 1), ((0, 1, 3), 0), ((0, 2, 3), 1), ((1, 2, 3), 0))]
        self.assertEqual(compare(FIVE, [LEAST, MEDIAN]), ("nothing", expected))
        self.assertEqual([index for _, index in compare(FIVE, [MEDIAN, LEAST])[1]], [0] * 4)
        self.assertEqual([index for _, index in compare(FIVE, [RULED, FIVE, MEDIAN])[1]], [1] * 4)

    def test_no_councils_and_no_power(self):
        # No side has room for the seat that outweighs the others.
        for councils in ([], [MEDIAN], [RULED] * 5):
            self.assertEqual(self.check(RULED, councils), ("nothing", []))
        self.assertEqual(self.check(MEDIAN, []), ("more", [(0, "least"), (0, "most"), (1, "least")]))
        self.assertEqual(self.check(LEAST, [RULED] * 5), ("more", [(0, "most"), (1, "most")]))
        for width in range(1, 7):
            council = Council([1, 1], [1] * width)
            self.assertEqual(self.check(council, [])[0], "more" if width > 1 else "nothing")
            self.assertEqual(self.check(council, [council] * 5)[0], "nothing")

    def test_of_several_with_the_fewest_sides_the_first_one(self):
        # Two sides with "most" of different columns are heavy, and for the others all but those of columns 1 and 2.
        council = Council([1, 1], [1, 1, 1])
        others = [Council([1, 1], [1, 1, 2]), Council([1, 1], [1, 2, 1])]
        self.assertEqual(self.check(council, others), ("more", [(1, "most"), (2, "most")]))
        self.assertEqual(self.check(council, others[:1]), ("more", [(0, "most"), (2, "most")]))

    def test_never_made_by_all_sessions(self):
        chance = random.Random(223)
        many = 0
        while many < 60:
            width = chance.randint(1, 3)
            councils = [some_council(chance, width, chance.randint(2, 4), chance.choice([1, 2, 3])) for _ in range(3)]
            kind, sides = compare(councils[0], councils[1:])
            if kind == "more":
                many += 1
                rows = witness_rows(width, sides)
                made = plain_made(rows, councils[1:])
                self.assertFalse(any(plain_meets(row, [(*side, 1) for side in sides]) for row in made))
                self.assertIn((1,) * width, plain_made(rows, councils[:1]))

    def test_nothing_is_added_on_any_shelf(self):
        chance = random.Random(224)
        many = 0
        while many < 40:
            width = chance.randint(1, 2)
            councils = [some_council(chance, width, chance.randint(2, 4), chance.choice([1, 2, 3])) for _ in range(2)]
            if compare(councils[0], councils[1:])[0] == "nothing":
                many += 1
                rows = [tuple(chance.randint(0, 2) for _ in range(width)) for _ in range(chance.randint(1, 4))]
                self.assertEqual(plain_made(rows, councils), plain_made(rows, councils[1:]))

    def test_same_question_again(self):
        found = [compare(LEAST, [MEDIAN]), compare(FIVE, [LEAST, MEDIAN])]
        kept = copy.deepcopy(found)
        found[0][1].clear()
        for sides, _ in found[1][1]:
            sides.clear()
        found[1][1].clear()
        compare(MEDIAN, [])[1].clear()
        self.assertEqual([compare(LEAST, [MEDIAN]), compare(FIVE, [LEAST, MEDIAN])], kept)


class SamePowerTest(unittest.TestCase):
    def check(self, councils, others):
        kept = [repr(councils), repr(others)]
        start = time.perf_counter()
        found = same_power(councils, others)
        self.assertLess(time.perf_counter() - start, 5)
        self.assertEqual([repr(councils), repr(others)], kept)
        self.assertEqual(found, plain_same_power(councils, others))
        return found

    def test_examples(self):
        check_examples(self, """
>>> from packedseats.councils import Council
>>> from packedseats.power import same_power, fewest
>>> least, median, five = Council([1, 1], [1, 1]), Council([1, 1, 1], [2, 2]), Council([1] * 5, [3, 3])
>>> [same_power([median], [five]), same_power([median], [least]), fewest([least, median, five])]
[None, (0, [(0, 'least'), (0, 'most'), (1, 'least')]), [[0, 1], [0, 2]]]
""")

    def test_against_all_sets_of_sides_in_both_orders(self):
        chance = random.Random(225)
        answers = []
        for width, many in ((1, 40), (2, 80), (3, 60), (4, 20), (5, 5), (6, 2)):
            for _ in range(many):
                councils = some_councils(chance, width, chance.randint(1, 6))
                cut = chance.randint(0, min(5, len(councils)))
                one, other = councils[:cut], councils[cut:][:5]
                found = self.check(one, other)
                turned = self.check(other, one)
                self.assertEqual(found is None, turned is None)
                if found is not None and found[0] == 1:
                    self.assertEqual(turned, (0, found[1]))
                answers.append(None if found is None else found[0])
        self.assertGreater(min(answers.count(answer) for answer in (None, 0, 1)), 20)

    def test_one_list_empty(self):
        self.assertIsNone(self.check([RULED], []))
        self.assertIsNone(self.check([], [RULED] * 5))
        self.assertEqual(self.check([LEAST], []), (0, [(0, "most"), (1, "most")]))
        self.assertEqual(self.check([], [LEAST]), (1, [(0, "most"), (1, "most")]))
        self.assertEqual(self.check([], [MEDIAN, LEAST]), (1, [(0, "most"), (1, "most")]))

    def test_equal_lists_and_a_council_twice(self):
        councils = [LEAST, MEDIAN, FIVE]
        self.assertIsNone(self.check(councils, councils))
        self.assertIsNone(self.check(councils, councils[::-1]))
        self.assertIsNone(self.check([MEDIAN], [MEDIAN] * 5))
        self.assertIsNone(self.check([MEDIAN, RULED], [FIVE]))
        self.assertEqual(self.check(councils, [MEDIAN] * 5), (0, [(0, "most"), (1, "most")]))
        self.assertEqual(self.check([MEDIAN] * 5, councils), (1, [(0, "most"), (1, "most")]))

    def test_the_first_list_goes_first(self):
        most = Council([1, 1], [2, 2])
        self.assertEqual(self.check([LEAST], [most]), (0, [(0, "most"), (1, "most")]))
        self.assertEqual(self.check([most], [LEAST]), (0, [(0, "least"), (1, "least")]))

    def test_what_all_sessions_make(self):
        chance = random.Random(226)
        answers = []
        while min(answers.count(True), answers.count(False)) < 40:
            width = chance.randint(1, 2)
            lists = [[some_council(chance, width, chance.randint(2, 4), chance.choice([1, 2]))
                      for _ in range(chance.randint(1, 2))] for _ in range(2)]
            found = same_power(*lists)
            answers.append(found is None)
            if found is None:
                rows = [tuple(chance.randint(0, 2) for _ in range(width)) for _ in range(3)]
                self.assertEqual(plain_made(rows, lists[0]), plain_made(rows, lists[1]))
            else:
                which, sides = found
                rows, ones = witness_rows(width, sides), (1,) * width
                self.assertIn(ones, plain_made(rows, lists[which]))
                self.assertNotIn(ones, plain_made(rows, lists[1 - which]))

    def test_same_question_again(self):
        found = same_power([MEDIAN], [LEAST])
        found[1].clear()
        self.assertEqual(same_power([MEDIAN], [LEAST]), (0, [(0, "least"), (0, "most"), (1, "least")]))


class FewestTest(unittest.TestCase):
    def check(self, councils):
        kept = repr(councils)
        start = time.perf_counter()
        found = fewest(councils)
        self.assertLess(time.perf_counter() - start, 5)
        self.assertEqual(repr(councils), kept)
        self.assertEqual(found, plain_fewest(councils))
        for group in found:
            self.assertIsNone(same_power(councils, [councils[at] for at in group]))
        return found

    def test_against_all_groups(self):
        chance = random.Random(227)
        lengths = []
        for width, many in ((1, 20), (2, 60), (3, 60), (4, 20), (5, 5)):
            for _ in range(many):
                found = self.check(some_councils(chance, width, chance.randint(1, 5)))
                lengths.append((len(found[0]), len(found)))
        self.assertGreater(min(sum(length == few for length, _ in lengths) for few in (0, 1, 2, 3)), 5)
        self.assertGreater(sum(many > 1 for _, many in lengths), 15)

    def test_width_six(self):
        chance = random.Random(228)
        for seats in (3, 7):
            councils = [some_council(chance, 6, seats) for _ in range(3)]
            self.check(councils + [councils[0], some_council(chance, 6, 2)])

    def test_equal_councils(self):
        self.assertEqual(self.check([MEDIAN] * 5), [[0], [1], [2], [3], [4]])
        self.assertEqual(self.check([MEDIAN, LEAST, FIVE, LEAST]), [[0, 1], [0, 3], [1, 2], [2, 3]])
        self.assertEqual(self.check([LEAST]), [[0]])

    def test_no_power_at_all(self):
        for many in (1, 2, 5):
            self.assertEqual(self.check([RULED] * many), [[]])
        self.assertEqual(self.check([RULED, MEDIAN, RULED]), [[1]])
        self.assertEqual(self.check([Council([1, 1], [2])]), [[]])

    def test_same_question_again(self):
        found = fewest([LEAST, MEDIAN, FIVE])
        found[0].clear()
        found.clear()
        fewest([RULED])[0].append(5)
        self.assertEqual(fewest([LEAST, MEDIAN, FIVE]), [[0, 1], [0, 2]])
        self.assertEqual(fewest([RULED]), [[]])


if __name__ == "__main__":
    unittest.main()
