import itertools
import random
import unittest

from samples import (FORK, HUGE, NO_TREES, all_trees, chance_houses, chance_lump, fars, is_rising, lie_apart, lumps,
                     small_trees, subsets)
from treewells.errors import NoTree, NoYard
from treewells.wells import shy, wells
from treewells.yards import apart, colours, crowd, spots

ASKS = (spots, apart, colours, crowd)
NO_YARDS = (
    [], [0, 0], [1, 0, 1], [0, 3], [0, 2, 3], [4], [-1], [0, 1, 4], [-1, 0, 1], [HUGE], [-HUGE], [0] * 400,
    list(range(400)), [True], [0, True],
)


def meets_all(yards, some):
    return all(set(yard) & set(some) for yard in yards)


def tells_apart(yards, numbers):
    pairs = itertools.combinations(range(len(yards)), 2)
    return all(numbers[a] != numbers[b] for a, b in pairs if set(yards[a]) & set(yards[b]))


def most_at_a_place(many, yards):
    return max(sum(place in yard for yard in yards) for place in range(many))


def fewest_spots(many, yards):
    return min(len(some) for some in subsets(range(many)) if meets_all(yards, some))


def most_apart(yards):
    return max(len(some) for some in subsets(range(len(yards))) if lie_apart(yards, some))


def fewest_colours(yards):
    """By trying all numbers below 1, below 2 and so on."""
    for count in range(len(yards) + 1):
        if any(tells_apart(yards, numbers) for numbers in itertools.product(range(count), repeat=len(yards))):
            return count


class Yards(unittest.TestCase):
    def check(self, many, roads, yards):
        """All four answers are right by definition, and each is as great as its paper."""
        case = (many, roads, yards)
        some, lone, numbers, place = [ask(*case) for ask in ASKS]
        for told in (some, lone, numbers):
            self.assertIsInstance(told, list, case)
        self.assertTrue(is_rising(some) and set(some) <= set(range(many)) and meets_all(yards, some), case)
        self.assertTrue(is_rising(lone) and set(lone) <= set(range(len(yards))) and lie_apart(yards, lone), case)
        self.assertEqual(len(some), len(lone), case)
        self.assertEqual(len(numbers), len(yards), case)
        self.assertTrue(min(numbers, default=0) >= 0 and tells_apart(yards, numbers), case)
        self.assertIn(place, range(many), case)
        self.assertEqual(max(numbers, default=-1) + 1, sum(place in yard for yard in yards), case)
        self.assertEqual(max(numbers, default=-1) + 1, most_at_a_place(many, yards), case)
        return some, lone, numbers, place

    def check_best(self, many, roads, yards):
        some, lone, numbers, _ = self.check(many, roads, yards)
        self.assertEqual(len(some), fewest_spots(many, yards), (many, roads, yards))
        self.assertEqual(len(lone), most_apart(yards), (many, roads, yards))
        self.assertEqual(max(numbers, default=-1) + 1, fewest_colours(yards), (many, roads, yards))

    def test_all_short_lists_at_trees_of_up_to_four_places(self):
        for many, roads in small_trees()[:41:2]:
            for size in range(3 if many == 4 else 4):
                for yards in itertools.product(lumps(many, roads), repeat=size):
                    self.check_best(many, roads, [list(yard) for yard in yards])

    def test_against_a_plain_search_at_all_trees(self):
        chance = random.Random(14)
        for many, roads in all_trees():
            for _ in range(3):
                yards = [chance_lump(chance, many, roads) for _ in range(chance.randint(0, 5))]
                self.check_best(many, roads, yards)

    def test_many_yards(self):
        chance = random.Random(15)
        for many, roads in all_trees():
            self.check(many, roads, [chance_lump(chance, many, roads) for _ in range(chance.randint(6, 25))])
        for many, roads in all_trees()[-8:]:
            self.check(many, roads, [chance_lump(chance, many, roads) for _ in range(400)])

    def test_small_yards_of_great_trees(self):
        chance = random.Random(16)
        for many, roads in all_trees()[-84:]:
            yards = [sorted(road[:2]) for road in roads if chance.random() < 0.6]
            yards += [[place] for place in range(many) if chance.random() < 0.3]
            chance.shuffle(yards)
            self.check(many, roads, yards)

    def test_without_yards(self):
        for many, roads in all_trees():
            self.assertEqual(spots(many, roads, []), [])
            self.assertEqual(apart(many, roads, []), [])
            self.assertEqual(colours(many, roads, []), [])
            self.assertIn(crowd(many, roads, []), range(many))

    def test_one_yard(self):
        for many, roads in small_trees():
            for yard in lumps(many, roads):
                some, lone, numbers, place = self.check(many, roads, [yard])
                self.assertEqual((len(some), lone, numbers), (1, [0], [0]))
                self.assertIn(place, yard)

    def test_yards_told_more_than_once(self):
        chance = random.Random(17)
        for many, roads in all_trees():
            yards = [chance_lump(chance, many, roads) for _ in range(4)]
            once = self.check(many, roads, yards)
            twice = self.check(many, roads, yards + [yard[::-1] for yard in yards[::-1]])
            self.assertEqual(len(once[0]), len(twice[0]))
            self.assertEqual(2 * max(once[2]) + 2, max(twice[2]) + 1)
        self.assertEqual(sorted(colours(*FORK, [[1, 3]] * 3)), [0, 1, 2])

    def test_yards_of_one_place_each(self):
        for many, roads in all_trees():
            yards = [[place] for place in range(many)]
            self.assertEqual(spots(many, roads, yards[::-1]), list(range(many)))
            self.assertEqual(apart(many, roads, yards[::-1]), list(range(many)))
            self.assertEqual(colours(many, roads, yards), [0] * many)

    def test_the_whole_tree_as_a_yard(self):
        for many, roads in all_trees():
            yards = [list(range(many))] + [[place] for place in range(many)]
            some, lone, numbers, _ = self.check(many, roads, yards)
            self.assertEqual((some, len(lone), max(numbers)), (list(range(many)), many, 1))

    def test_by_hand(self):
        yards = [[3, 1], [0], [1, 0], [2, 1]]
        self.assertEqual(spots(*FORK, yards), [0, 1])
        self.assertIn(apart(*FORK, yards), ([0, 1], [1, 3]))
        self.assertEqual(crowd(*FORK, yards), 1)
        self.assertEqual(max(colours(*FORK, yards)), 2)
        self.assertEqual(spots(1, [], [[0], [0]]), [0])
        self.assertEqual(sorted(colours(1, [], [[0], [0]])), [0, 1])
        self.assertEqual(crowd(1, [], [[0], [0]]), 0)

    def test_as_many_spots_as_wells_for_houses_of_reach_nought(self):
        chance = random.Random(18)
        for many, roads in all_trees():
            places = [chance.randrange(many) for _ in range(chance.randint(0, 9))]
            dug = wells(many, roads, [[place, 0] for place in places], list(range(many)))
            self.assertEqual(len(dug), len(spots(many, roads, [[place] for place in places])))

    def test_as_many_spots_for_the_yards_of_houses_as_wells(self):
        chance = random.Random(19)
        for many, roads in all_trees():
            table = fars(many, roads)
            for _ in range(3):
                houses = chance_houses(chance, table, 10)
                yards = [[a for a in range(many) if table[a][place] <= reach] for place, reach in houses]
                dug = wells(many, roads, houses, list(range(many)))
                self.assertEqual(len(dug), len(spots(many, roads, yards)))
                self.assertEqual(len(shy(many, roads, houses, list(range(many)))), len(apart(many, roads, yards)))

    def test_what_is_no_lump_is_refused_with_no_yard(self):
        for ask in ASKS:
            for yard in NO_YARDS:
                for yards in ([yard], [[0], yard], [yard, [0, 1]], [[0]] * 399 + [yard], [yard, [4]]):
                    self.assertRaises(NoYard, ask, *FORK, yards)
            self.assertRaises(NoYard, ask, 1, [], [[1]])
            self.assertRaises(NoYard, ask, 1, [], [[]])

    def test_any_short_list_is_a_yard_or_refused(self):
        for many, roads in ((1, []), (3, [[2, 0, 1], [0, 1, 4]]), FORK):
            right = lumps(many, roads)
            for size in range(4):
                for yard in itertools.product(range(-1, many + 1), repeat=size):
                    if sorted(yard) in right:
                        self.check(many, roads, [list(yard)])
                    else:
                        for ask in ASKS:
                            self.assertRaises(NoYard, ask, many, roads, [list(yard)])

    def test_no_tree_goes_ahead(self):
        for ask in ASKS:
            for many, roads in NO_TREES:
                for yards in ([], [[0]], [[]], [[-1]], [[0, 0]]):
                    self.assertRaises(NoTree, ask, many, roads, yards)


if __name__ == "__main__":
    unittest.main()
