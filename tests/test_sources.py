"""Promises [70] and [71], and what [7] says of sources."""

import copy
import itertools
import random
import time
import unittest

from packedseats.councils import Council
from packedseats.errors import CouncilError, TooMany
from packedseats.sources import enough, strength
from packedseats.wishes import decide, is_paper, is_possible
from tests.plain import (
    GREAT, TWELVE_SIDES, check_examples, plain_is_heavy, plain_made, plain_meets, some_council, some_row,
    some_small_board, some_wish, subsets_of, wish_for_a_made_row,
)

MEDIAN = Council([1, 1, 1], [2, 2, 2])
NAMES = ["ann", "bob", "cyd", "dan", "eve", "fay", "gus", "hal", "ida", "joe", "kim", "zzzzzzzz"]
SHELF = [("ann", (1, 1, 0)), ("bob", (1, 0, 1)), ("cyd", (0, 1, 1)), ("ann", (1, 0, 1))]
WISH = [(0, "least", 1), (1, "least", 1), (2, "least", 1)]


def rows_of(shelf, sources):
    return [row for source, row in shelf if source in sources]


def sources_of(shelf):
    return sorted({source for source, _ in shelf})


def plain_strength(shelf, councils, wish):
    """Return the answer of [70], by going through all groups of sources and all light subsets of the wish."""
    for group in subsets_of(sources_of(shelf)):
        left = [source for source in sources_of(shelf) if source not in group]
        if not plain_is_possible(rows_of(shelf, left), councils, wish):
            number = len(group)
            break
    for paper in subsets_of(sorted(wish)):
        if not any(plain_is_heavy(council, [bound[:2] for bound in paper]) for council in councils):
            names = sorted({source for source, row in shelf if plain_meets(row, paper)})
            if len(names) == number:
                return (number, paper, names)


def plain_enough(shelf, councils, wish):
    """Return the answer of [71], by going through all groups of sources."""
    groups = [set(group) for group in subsets_of(sources_of(shelf))
              if plain_is_possible(rows_of(shelf, group), councils, wish)]
    return sorted(sorted(group) for group in groups if not any(other < group for other in groups))


def plain_is_possible(rows, councils, wish):
    return any(plain_meets(row, wish) for row in plain_made(rows, councils))


def some_wishes(chance, rows, councils):
    """Return a wish that several rows may meet, one that is possible, and one that most often is not."""
    width = councils[0].width()
    loose = [(*side, chance.choice([0, 1]) if side[1] == "least" else chance.choice([1, 2, 3]))
             for side in chance.sample(TWELVE_SIDES[:2 * width], chance.randint(0, 2))]
    return loose, wish_for_a_made_row(chance, rows, councils), some_wish(chance, width, 0, 3)


def some_shelf(chance, rows, names):
    """Return the rows with a source for each, now and then with a source of its own for each."""
    if len(names) >= len(rows) and chance.random() < 0.5:
        return list(zip(chance.sample(names, len(names)), rows))
    return [(chance.choice(names), row) for row in rows]


class SourcesCase(unittest.TestCase):
    def unchanged(self, function, shelf, councils, wish):
        """Return what the function returns, and check that the arguments stay as they are."""
        kept = copy.deepcopy([shelf, wish]), list(councils)
        found = function(shelf, councils, wish)
        self.assertEqual(([shelf, wish], councils), kept)
        return found


class StrengthTest(SourcesCase):
    def check(self, shelf, councils, wish):
        found = self.unchanged(strength, shelf, councils, wish)
        self.assertEqual(found, plain_strength(shelf, councils, wish))
        self.assertEqual([type(part) for part in found], [int, list, list])
        return found

    def test_example(self):
        check_examples(self, """
>>> from packedseats.councils import Council
>>> from packedseats.sources import strength
>>> shelf = [('ann', (1, 1, 0)), ('bob', (1, 0, 1)), ('cyd', (0, 1, 1)), ('ann', (1, 0, 1))]
>>> strength(shelf, [Council([1, 1, 1], [2, 2, 2])], [(0, 'least', 1), (1, 'least', 1), (2, 'least', 1)])
(1, [(0, 'least', 1), (1, 'least', 1)], ['ann'])
""")

    def test_against_all_groups(self):
        chance = random.Random(130)
        numbers, lengths = [], []
        for _ in range(80):
            rows, councils = some_small_board(chance)
            rows += [some_row(chance, councils[0].width(), 0, 1) for _ in range(chance.randint(1, 2))]
            shelf = some_shelf(chance, rows, NAMES[:chance.randint(1, 6)])
            for wish in some_wishes(chance, rows, councils):
                found = self.check(shelf, councils, wish)
                numbers.append(found[0])
                lengths.append(len(found[1]))
        self.assertGreater(min(numbers.count(number) for number in (0, 1, 2)), 15)
        self.assertGreater(min(lengths.count(length) for length in (0, 1, 2)), 5)
        self.assertGreater(max(numbers), 3)

    def test_impossible_wish(self):
        chance = random.Random(131)
        many = 0
        while many < 60:
            rows, councils = some_small_board(chance)
            wish = some_wish(chance, councils[0].width(), 0, 3)
            if not is_possible(rows, councils, wish):
                many += 1
                found = strength(some_shelf(chance, rows, NAMES), councils, wish)
                self.assertEqual(found, (0, decide(rows, councils, wish)[1], []))

    def test_empty_shelf_and_empty_wish(self):
        for councils in ([], [MEDIAN], [MEDIAN] * 5):
            self.assertEqual(strength([], councils, []), (0, [], []))
            self.assertEqual(strength([], councils, list(WISH)), (0, [], []))
            self.assertEqual(strength(SHELF, councils, []), (3, [], ["ann", "bob", "cyd"]))
            self.assertEqual(strength(SHELF[::-1] * 3, councils, []), (3, [], ["ann", "bob", "cyd"]))

    def test_one_source_with_several_rows(self):
        shelf = [("ann", row) for _, row in SHELF]
        self.assertEqual(strength(shelf, [MEDIAN], WISH), (1, [], ["ann"]))
        self.assertEqual(strength(shelf + [("bob", (0, 0, 0))], [MEDIAN], WISH), (1, [(0, "least", 1)], ["ann"]))

    def test_one_row_told_by_several_sources(self):
        rows = sorted({row for _, row in SHELF})
        shelf = [(source, row) for source in NAMES[:4] for row in rows]
        self.assertEqual(strength(shelf, [MEDIAN], WISH), (4, [], NAMES[:4]))
        shelf = [(source, (5, 5)) for source in NAMES[::-1]] + [("ann", (0, 0)), ("you", (0, 9))]
        wish = [(1, "least", 5), (0, "least", 5)]
        self.assertEqual(strength(shelf, [], wish), (12, [(0, "least", 5)], sorted(NAMES)))
        self.assertEqual(strength(shelf, [MEDIAN.part([0, 1])], wish), (12, [(0, "least", 5)], sorted(NAMES)))
        self.assertEqual(strength(shelf, [], wish[:1]), (13, [], sorted([*NAMES, "you"])))

    def test_fewest_bounds_and_then_the_first_in_order(self):
        shelf = [("ann", (1, 1, 0)), ("bob", (1, 0, 1)), ("cyd", (0, 1, 1))]
        # Each pair is met by one source, and each bound alone by two of them.
        self.assertEqual(strength(shelf, [MEDIAN], WISH[::-1]), (1, WISH[:2], ["ann"]))
        # Of the pairs the last one alone is met by one source only.
        more = shelf + [("dan", (1, 1, 0)), ("eve", (1, 0, 1))]
        self.assertEqual(strength(more, [MEDIAN], WISH), (1, WISH[1:], ["cyd"]))
        # One bound alone is met by one source, and so are pairs that come before it.
        less = [("ann", (1, 1, 1)), ("bob", (1, 0, 0)), ("cyd", (0, 1, 0))]
        self.assertEqual(strength(less, [MEDIAN], WISH), (1, [(2, "least", 1)], ["ann"]))

    def test_what_comes_of_the_withdrawal(self):
        chance = random.Random(132)
        for _ in range(40):
            width = chance.randint(2, 6)
            rows = [some_row(chance, width, 0, 9) for _ in range(40)]
            shelf = some_shelf(chance, rows, NAMES)
            councils = [some_council(chance, width) for _ in range(chance.randint(0, 5))]
            wish = [(*side, 4 if side[1] == "least" else 7)
                    for side in chance.sample(TWELVE_SIDES[:2 * width], chance.randint(1, 2 * width))]
            self.check_withdrawal(shelf, councils, wish)

    def check_withdrawal(self, shelf, councils, wish):
        start = time.perf_counter()
        number, paper, names = self.unchanged(strength, shelf, councils, wish)
        self.assertLess(time.perf_counter() - start, 5)
        self.assertEqual([number, names], [len(names), sorted(set(names))])
        left = rows_of(shelf, [source for source in sources_of(shelf) if source not in names])
        self.assertIs(is_paper(left, councils, wish, paper), True)
        self.assertIs(is_possible([row for _, row in shelf], councils, wish), number > 0)
        # Fewer sources that withdraw leave the wish possible: all but one of these, and others.
        chance = random.Random(repr(shelf))
        groups = [names[:at] + names[at + 1:] for at in range(number)]
        groups += [chance.sample(sources_of(shelf), max(0, number - 1)) for _ in range(10 if number else 0)]
        for group in groups:
            left = rows_of(shelf, [source for source in sources_of(shelf) if source not in group])
            self.assertIs(is_possible(left, councils, wish), True)

    def test_forty_sources_and_the_largest_inputs(self):
        chance = random.Random(133)
        names = [first + second for first in "abcdefgh" for second in "vwxyz"]
        for greatest in (1, 5, 10 ** 6):
            for outer in (2, 5, 12):
                rows = [some_row(chance, 6, -GREAT, GREAT) for _ in range(40)]
                wish = [(*side, sorted(row[side[0]] for row in rows)[outer if side[1] == "least" else -1 - outer])
                        for side in TWELVE_SIDES]
                councils = [some_council(chance, 6, 7, greatest) for _ in range(5)]
                self.check_withdrawal(list(zip(names, rows)), councils, wish[::-1])
                self.check_withdrawal(list(zip(names, rows)), [], wish)
                self.check_withdrawal(some_shelf(chance, rows, NAMES), councils, wish)

    def test_same_question_again(self):
        found = strength(SHELF, [MEDIAN], WISH)
        kept = copy.deepcopy(found)
        found[1].clear()
        found[2].append("me")
        strength(SHELF[1:], [], WISH[1:])[1].clear()
        self.assertEqual(strength(SHELF, [MEDIAN], WISH), kept)
        self.assertEqual(strength(SHELF[::-1], [MEDIAN], WISH[::-1]), kept)


class EnoughTest(SourcesCase):
    def check(self, shelf, councils, wish):
        found = self.unchanged(enough, shelf, councils, wish)
        self.assertEqual(found, plain_enough(shelf, councils, wish))
        self.assertEqual([type(found), {type(group) for group in found}], [list, {list for _ in found}])
        return found

    def check_too_many(self, shelf, councils, wish):
        with self.assertRaises(CouncilError) as caught:
            enough(shelf, councils, wish)
        self.assertIs(type(caught.exception), TooMany)
        self.assertEqual(caught.exception.limit, 10)

    def test_example(self):
        check_examples(self, """
>>> from packedseats.councils import Council
>>> from packedseats.sources import enough
>>> shelf = [('ann', (1, 1, 0)), ('bob', (1, 0, 1)), ('cyd', (0, 1, 1)), ('ann', (1, 0, 1))]
>>> enough(shelf, [Council([1, 1, 1], [2, 2, 2])], [(0, 'least', 1), (1, 'least', 1), (2, 'least', 1)])
[['ann', 'cyd']]
""")

    def test_against_all_groups(self):
        chance = random.Random(134)
        lengths = []
        for _ in range(80):
            rows, councils = some_small_board(chance)
            rows += [some_row(chance, councils[0].width(), 0, 1) for _ in range(chance.randint(1, 2))]
            shelf = some_shelf(chance, rows, NAMES[:chance.randint(1, 6)])
            for wish in some_wishes(chance, rows, councils):
                found = self.check(shelf, councils, wish)
                lengths += [len(group) for group in found]
        self.assertGreater(min(lengths.count(1), lengths.count(2)), 10)

    def test_ten_sources_against_all_groups(self):
        chance = random.Random(135)
        for _ in range(12):
            shelf = list(zip(chance.sample(NAMES, 10), [some_row(chance, 3, 0, 2) for _ in range(10)]))
            shelf += [(chance.choice(shelf)[0], some_row(chance, 3, 0, 2)) for _ in range(5)]
            councils = [some_council(chance, 3) for _ in range(2)]
            wish = [(*side, 1) for side in chance.sample(TWELVE_SIDES[:6], 3)]
            possible = [set(group) for group in subsets_of(sources_of(shelf))
                        if is_possible(rows_of(shelf, group), councils, wish)]
            least = [sorted(group) for group in possible if not any(other < group for other in possible)]
            self.assertEqual(self.unchanged(enough, shelf, councils, wish), sorted(least))

    def test_ten_and_eleven_sources(self):
        row = (1, 1, 1)
        for councils in ([], [MEDIAN], [MEDIAN] * 5):
            ten = [(name, row) for name in NAMES[:10]]
            self.assertEqual(enough(ten, councils, WISH), [[name] for name in NAMES[:10]])
            self.assertEqual(enough(ten * 4, councils, WISH), [[name] for name in NAMES[:10]])
            for wish in (WISH, [], [(0, "least", 2)]):
                for more in (1, 2):
                    shelf = [(name, row) for name in NAMES[:10 + more]]
                    self.check_too_many(shelf, councils, wish)
                    self.check_too_many(shelf[::-1] + shelf, councils, wish)
        forty = [(first + second, row) for first in "abcdefgh" for second in "vwxyz"]
        self.check_too_many(forty, [MEDIAN], WISH)

    def test_impossible_wish(self):
        chance = random.Random(136)
        for shelf in ([], SHELF, SHELF[:1] * 40):
            for councils in ([], [MEDIAN]):
                self.assertEqual(enough(shelf, councils, [(1, "least", 2)]), [])
        self.assertEqual(enough([], [MEDIAN], []), [])
        self.assertEqual(enough(SHELF[:2], [MEDIAN], WISH), [])
        many = 0
        while many < 30:
            rows, councils = some_small_board(chance)
            wish = some_wish(chance, councils[0].width(), 0, 3)
            if not is_possible(rows, councils, wish):
                many += 1
                self.assertEqual(enough(some_shelf(chance, rows, NAMES[:9]), councils, wish), [])

    def test_wishes_that_every_row_meets(self):
        for wish in ([], [(0, "least", 0)], [(2, "most", 1), (2, "least", 0)]):
            self.assertEqual(enough(SHELF[::-1], [MEDIAN], wish), [["ann"], ["bob"], ["cyd"]])
            self.assertEqual(enough(SHELF[::-1], [], wish), [["ann"], ["bob"], ["cyd"]])

    def test_sets_of_different_lengths_in_order(self):
        shelf = [("bob", (1, 1, 1)), ("ann", (1, 1, 0)), ("cyd", (1, 0, 1)), ("dan", (0, 1, 1)), ("aaa", (0, 1, 1))]
        self.assertEqual(self.check(shelf, [MEDIAN], WISH),
                         [["aaa", "ann", "cyd"], ["ann", "cyd", "dan"], ["bob"]])

    def test_the_largest_inputs(self):
        chance = random.Random(137)
        for greatest in (1, 5, 10 ** 6):
            for councils in ([some_council(chance, 6, 7, greatest) for _ in range(5)], []):
                rows = [some_row(chance, 6, 0, 9) for _ in range(40)]
                shelf = [(NAMES[at % 10], row) for at, row in enumerate(rows)]
                wish = [(*side, 2 if side[1] == "least" else 7) for side in TWELVE_SIDES]
                start = time.perf_counter()
                found = self.unchanged(enough, shelf, councils, wish)
                self.assertLess(time.perf_counter() - start, 5)
                self.check_groups(shelf, councils, wish, found)

    def check_groups(self, shelf, councils, wish, found):
        self.assertEqual(found, sorted(sorted(set(group)) for group in found))
        for group in found[:20]:
            self.assertIs(is_possible(rows_of(shelf, group), councils, wish), True)
            for name in group:
                less = [other for other in group if other != name]
                self.assertIs(is_possible(rows_of(shelf, less), councils, wish), False)
        for group in itertools.combinations(NAMES[:10], 4):
            if not any(set(least) <= set(group) for least in found):
                self.assertIs(is_possible(rows_of(shelf, group), councils, wish), False)

    def test_same_question_again(self):
        found = enough(SHELF, [MEDIAN], WISH)
        kept = copy.deepcopy(found)
        found[0].clear()
        found.clear()
        enough(SHELF, [], []).clear()
        self.assertEqual(enough(SHELF, [MEDIAN], WISH), kept)
        self.assertEqual(enough(SHELF[::-1], [MEDIAN], WISH[::-1]), kept)


if __name__ == "__main__":
    unittest.main()
