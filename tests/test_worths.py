import itertools
import random
import unittest

from samples import (FORK, GREAT, HUGE, NO_TREES, all_trees, chance_lump, is_rising, lie_apart, lumps, small_trees,
                     subsets)
from treewells.errors import NoTree, NoWorth, NoYard
from treewells.worths import best_yards, prices
from treewells.yards import spots

ASKS = (best_yards, prices)
NO_YARDS = ([], [0, 0], [0, 3], [4], [-1], [HUGE], [0, True])


def greatest_worth(yards, worths):
    """By trying all lists of yards."""
    choices = subsets(range(len(yards)))
    return max(sum(worths[number] for number in some) for some in choices if lie_apart(yards, some))


def least_prices(many, yards, worths):
    """By trying all prices of up to the greatest worth."""
    choices = itertools.product(range(max(worths, default=0) + 1), repeat=many)
    return min(sum(some) for some in choices
               if all(sum(some[place] for place in yard) >= worth for yard, worth in zip(yards, worths)))


def chance_worths(chance, count):
    most = chance.choice((1, 3, 9, GREAT))
    return [chance.randint(0, most) for _ in range(count)]


class Worths(unittest.TestCase):
    def check(self, many, roads, yards, worths):
        """Both answers are right by definition and as great as one another."""
        case = (many, roads, yards, worths)
        best, priced = best_yards(*case), prices(*case)
        self.assertIsInstance(best, list, case)
        self.assertIsInstance(priced, list, case)
        self.assertTrue(is_rising(best) and set(best) <= set(range(len(yards))) and lie_apart(yards, best), case)
        self.assertEqual(len(priced), many, case)
        self.assertTrue(min(priced) >= 0, case)
        for yard, worth in zip(yards, worths):
            self.assertGreaterEqual(sum(priced[place] for place in yard), worth, case)
        total = sum(worths[number] for number in best)
        self.assertEqual(total, sum(priced), case)
        return total

    def test_all_short_lists_at_trees_of_up_to_three_places(self):
        for many, roads in small_trees()[:9:2]:
            for size in range(4):
                for yards in itertools.product(lumps(many, roads), repeat=size):
                    for worths in itertools.product(range(3), repeat=size):
                        yards, worths = [list(yard) for yard in yards], list(worths)
                        total = self.check(many, roads, yards, worths)
                        self.assertEqual(total, greatest_worth(yards, worths))

    def test_prices_against_a_plain_search(self):
        chance = random.Random(20)
        for many, roads in small_trees()[::5]:
            for _ in range(3):
                yards = [chance_lump(chance, many, roads) for _ in range(chance.randint(0, 5))]
                worths = [chance.randint(0, 3) for _ in yards]
                self.assertEqual(self.check(many, roads, yards, worths), least_prices(many, yards, worths))

    def test_best_yards_against_a_plain_search_at_all_trees(self):
        chance = random.Random(21)
        for many, roads in all_trees():
            for _ in range(5):
                yards = [chance_lump(chance, many, roads) for _ in range(chance.randint(0, 7))]
                worths = chance_worths(chance, len(yards))
                self.assertEqual(self.check(many, roads, yards, worths), greatest_worth(yards, worths))

    def test_many_yards(self):
        chance = random.Random(22)
        for many, roads in all_trees():
            yards = [chance_lump(chance, many, roads) for _ in range(chance.randint(8, 30))]
            yards += [sorted(road[:2]) for road in roads]
            self.check(many, roads, yards, chance_worths(chance, len(yards)))
        for many, roads in all_trees()[-8:]:
            yards = [chance_lump(chance, many, roads) for _ in range(400)]
            self.check(many, roads, yards, chance_worths(chance, 400))

    def test_worths_of_one_come_to_the_number_of_spots(self):
        chance = random.Random(23)
        for many, roads in all_trees():
            for size in (1, 4, 12):
                yards = [chance_lump(chance, many, roads) for _ in range(size)]
                self.assertEqual(self.check(many, roads, yards, [1] * size), len(spots(many, roads, yards)))

    def test_worths_of_nought(self):
        chance = random.Random(24)
        for many, roads in all_trees():
            yards = [chance_lump(chance, many, roads) for _ in range(5)]
            self.assertEqual(self.check(many, roads, yards, [0] * 5), 0)
            self.assertEqual(prices(many, roads, yards, [0] * 5), [0] * many)
            self.assertEqual(self.check(many, roads, yards, [0, 0, 7, 0, 0]), 7)

    def test_without_yards(self):
        for many, roads in all_trees():
            self.assertEqual(best_yards(many, roads, [], []), [])
            self.assertEqual(prices(many, roads, [], []), [0] * many)

    def test_yards_told_more_than_once(self):
        self.assertEqual(self.check(*FORK, [[1, 3], [3, 1], [1, 3]], [4, 9, 6]), 9)
        self.assertEqual(best_yards(*FORK, [[1, 3], [3, 1], [1, 3]], [4, 9, 6]), [1])
        self.assertEqual(self.check(*FORK, [[0], [0], [0, 1], [1]], [5, 5, 6, 1]), 6)

    def test_by_hand(self):
        yards = [[0, 1, 2, 3], [0], [2], [3, 1]]
        self.assertEqual(best_yards(*FORK, yards, [10, 3, 3, 3]), [0])
        self.assertEqual(best_yards(*FORK, yards, [8, 3, 3, 3]), [1, 2, 3])
        self.assertEqual(sum(prices(*FORK, yards, [10, 3, 3, 3])), 10)
        self.assertEqual(prices(*FORK, [[0], [1], [2], [3]], [4, 3, GREAT, 1]), [4, 3, GREAT, 1])
        self.assertEqual(best_yards(1, [], [[0], [0]], [1, GREAT]), [1])
        self.assertEqual(prices(1, [], [[0], [0]], [1, GREAT]), [GREAT])

    def test_wrong_worths_are_refused(self):
        for ask in ASKS:
            for worths in ([], [1], [1, 2, 3], [-1, 0], [0, -1], [3, -GREAT], [1] * 400, [1, True]):
                self.assertRaises(NoWorth, ask, *FORK, [[0], [1, 3]], worths)
            for worths in ([0], [-1], [1] * 400):
                self.assertRaises(NoWorth, ask, *FORK, [], worths)
                self.assertRaises(NoWorth, ask, 1, [], [], worths)
            self.assertRaises(NoWorth, ask, 1, [], [[0]], [])

    def test_no_yard_goes_ahead_of_no_worth(self):
        for ask in ASKS:
            for yard in NO_YARDS:
                for worths in ([1, 1], [], [-1, 1], [1, -1], [1, 1, 1]):
                    self.assertRaises(NoYard, ask, *FORK, [[0], yard], worths)
                    self.assertRaises(NoYard, ask, *FORK, [yard, [0, 1]], worths)

    def test_no_tree_goes_ahead_of_all(self):
        for ask in ASKS:
            for many, roads in NO_TREES:
                for yards, worths in (([], []), ([[0]], [1]), ([[]], [1]), ([[0]], [-1]), ([[HUGE]], [])):
                    self.assertRaises(NoTree, ask, many, roads, yards, worths)


if __name__ == "__main__":
    unittest.main()
