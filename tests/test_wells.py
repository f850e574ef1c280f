import itertools
import random
import unittest

from samples import (FORK, GREAT, HUGE, NO_TREES, all_trees, chance_houses, chance_sites, fars, is_rising, small_trees,
                     subsets)
from treewells.errors import NoPlace, NoSite, NoTree
from treewells.wells import serves, shy, wells

NO_PLACES = (-1, 4, 12, HUGE, -HUGE, True)


def serving(table, house, sites):
    place, reach = house
    return [site for site in sites if table[site][place] <= reach]


def share_no_site(table, houses, numbers, sites):
    served = [site for number in numbers for site in serving(table, houses[number], sites)]
    return len(served) == len(set(served))


def fewest_wells(table, houses, sites):
    """By trying all lists of sites, shorter ones first."""
    for some in subsets(sites):
        if all(serving(table, house, some) for house in houses):
            return len(some)
    return None


def most_shy(table, houses, sites):
    """By trying all lists of houses."""
    return max(len(some) for some in subsets(range(len(houses))) if share_no_site(table, houses, some, sites))


class Wells(unittest.TestCase):
    def check(self, many, roads, table, houses, sites):
        """Both answers are right by definition and, where there are wells, as great as one another."""
        case = (many, roads, houses, sites)
        dug, lone = wells(*case), shy(*case)
        self.assertIsInstance(lone, list, case)
        if all(serving(table, house, sites) for house in houses):
            self.assertIsInstance(dug, list, case)
            self.assertTrue(is_rising(dug) and set(dug) <= set(sites), case)
            self.assertTrue(all(serving(table, house, dug) for house in houses), case)
            self.assertTrue(is_rising(lone) and set(lone) <= set(range(len(houses))), case)
            self.assertTrue(share_no_site(table, houses, lone, sites), case)
            self.assertEqual(len(dug), len(lone), case)
        else:
            self.assertIsNone(dug, case)
            self.assertEqual(len(lone), 1, case)
            self.assertIn(lone[0], range(len(houses)), case)
            self.assertEqual(serving(table, houses[lone[0]], sites), [], case)
        return dug, lone

    def check_best(self, many, roads, table, houses, sites):
        dug, lone = self.check(many, roads, table, houses, sites)
        fewest = fewest_wells(table, houses, sites)
        self.assertEqual(None if dug is None else len(dug), fewest, (many, roads, houses, sites))
        if dug is not None:
            self.assertEqual(len(lone), most_shy(table, houses, sites), (many, roads, houses, sites))

    def test_all_short_lists_at_trees_of_up_to_three_places(self):
        for many, roads in small_trees()[:9]:
            table = fars(many, roads)
            kinds = [[place, reach] for place in range(many) for reach in sorted({0, *table[place], 2})]
            for size in range(3):
                for houses in itertools.product(kinds, repeat=size):
                    for sites in subsets(range(many)):
                        self.check_best(many, roads, table, list(houses), sites)

    def test_against_a_plain_search_at_small_trees(self):
        chance = random.Random(3)
        for many, roads in small_trees():
            table = fars(many, roads)
            for _ in range(12):
                houses = chance_houses(chance, table, 6)
                self.check_best(many, roads, table, houses, chance_sites(chance, many))

    def test_against_a_plain_search_at_all_trees(self):
        chance = random.Random(4)
        for many, roads in all_trees()[-84:]:
            table = fars(many, roads)
            for _ in range(3):
                self.check_best(many, roads, table, chance_houses(chance, table, 7), chance_sites(chance, many, 2))

    def test_wells_and_shy_houses_are_as_many_where_sites_serve_all(self):
        chance = random.Random(5)
        served = []
        for many, roads in all_trees() * 3:
            table = fars(many, roads)
            for sites in (list(range(many)), chance_sites(chance, many), chance_sites(chance, many, 1)):
                houses = chance_houses(chance, table, 30)
                served.append(self.check(many, roads, table, houses, sites)[0] is not None)
                reachable = [house for house in houses if serving(table, house, sites)]
                self.assertIsNotNone(self.check(many, roads, table, reachable, sites)[0])
        self.assertTrue(min(served.count(True), served.count(False)) > 100)

    def test_lists_of_four_hundred_houses(self):
        chance = random.Random(6)
        for many, roads in all_trees()[-20:]:
            table = fars(many, roads)
            houses = [house for _ in range(100) for house in chance_houses(chance, table, 12)][:400]
            self.assertEqual(len(houses), 400)
            self.check(many, roads, table, houses, list(range(many - 1, -1, -1)))
            self.check(many, roads, table, houses, chance_sites(chance, many, 1))

    def test_by_hand(self):
        self.assertEqual(wells(*FORK, [[0, 5], [2, 2], [3, 7]], [0, 1, 2, 3]), [1])
        self.assertEqual(wells(*FORK, [[0, 5], [2, 2], [3, 6]], [3, 2, 1, 0]), [1, 3])
        self.assertEqual(wells(*FORK, [[0, 4], [2, 1], [3, 6]], [0, 1, 2, 3]), [0, 2, 3])
        self.assertEqual(shy(*FORK, [[0, 4], [2, 1], [3, 6]], [0, 1, 2, 3]), [0, 1, 2])
        self.assertEqual(len(shy(*FORK, [[0, 5], [2, 2], [3, 7]], [0, 1, 2, 3])), 1)
        self.assertEqual(shy(*FORK, [[3, 6], [0, 5], [2, 2]], [3, 2, 0]), [0, 1, 2])

    def test_reaches_meet_at_a_place_without_a_site(self):
        self.assertEqual(wells(*FORK, [[0, 5], [3, 7]], [0, 3]), [0, 3])
        self.assertEqual(shy(*FORK, [[0, 5], [3, 7]], [0, 3]), [0, 1])
        self.assertEqual(wells(*FORK, [[0, 7], [3, 9]], [3, 2, 0]), [2])
        self.assertEqual(len(shy(*FORK, [[0, 7], [3, 9]], [3, 2, 0])), 1)

    def test_no_site_that_serves(self):
        self.assertIsNone(wells(*FORK, [[0, 12], [2, 6], [3, 9]], [0]))
        self.assertEqual(shy(*FORK, [[0, 12], [2, 6], [3, 12]], [0]), [1])
        self.assertIsNone(wells(*FORK, [[0, 0], [3, GREAT]], [3]))
        self.assertEqual(shy(*FORK, [[3, GREAT], [0, 0]], [3]), [1])

    def test_without_houses_or_sites(self):
        for many, roads in all_trees():
            for sites in ([], [0], list(range(many))):
                self.assertEqual(wells(many, roads, [], sites), [])
                self.assertEqual(shy(many, roads, [], sites), [])
            self.assertIsNone(wells(many, roads, [[0, GREAT]], []))
            self.assertEqual(shy(many, roads, [[0, GREAT]], []), [0])
            self.assertEqual(len(shy(many, roads, [[0, 1], [many - 1, GREAT]], [])), 1)

    def test_houses_told_more_than_once(self):
        chance = random.Random(7)
        for many, roads in all_trees():
            table = fars(many, roads)
            houses = chance_houses(chance, table, 8)
            sites = chance_sites(chance, many)
            dug, lone = self.check(many, roads, table, houses, sites)
            again, still = self.check(many, roads, table, houses + houses[::-1], sites)
            self.assertEqual(dug is None, again is None)
            self.assertEqual(len(lone), len(still))

    def test_a_reach_of_nought(self):
        for many, roads in all_trees():
            houses = [[place, 0] for place in range(many)]
            everywhere = list(range(many))
            self.assertEqual(wells(many, roads, houses, everywhere[::-1]), everywhere)
            self.assertEqual(shy(many, roads, houses, everywhere), everywhere)
            self.assertIsNone(wells(many, roads, houses, everywhere[1:]))
            self.assertEqual(shy(many, roads, houses, everywhere[1:]), [0])

    def test_a_reach_that_is_just_enough(self):
        for many, roads in all_trees():
            table = fars(many, roads)
            for a in range(many):
                for b in range(many):
                    self.assertEqual(wells(many, roads, [[a, table[a][b]]], [b]), [b])
                    self.assertEqual(shy(many, roads, [[a, table[a][b]]], [b]), [0])
                    if a != b:
                        self.assertIsNone(wells(many, roads, [[a, table[a][b] - 1]], [b]))

    def test_one_great_reach(self):
        for many, roads in all_trees():
            houses = [[place, 11 * GREAT] for place in range(many)]
            self.assertEqual(len(wells(many, roads, houses, list(range(many)))), 1)
            self.assertEqual(len(shy(many, roads, houses, list(range(many)))), 1)

    def test_no_place_goes_ahead_of_no_site(self):
        for ask in (wells, shy):
            for number in NO_PLACES:
                for sites in ([0, 1], [0, 0], []):
                    self.assertRaises(NoPlace, ask, *FORK, [[number, 1]], sites)
                    self.assertRaises(NoPlace, ask, *FORK, [[0, 1], [number, 0]], sites)
                    self.assertRaises(NoPlace, ask, *FORK, [[0, 1]], sites + [number])
                    self.assertRaises(NoPlace, ask, *FORK, [], [number] + sites)
                    self.assertRaises(NoPlace, ask, *FORK, [], [number, number])
                self.assertRaises(NoPlace, ask, *FORK, [[0, 0]] * 399 + [[number, 0]], [0])
            self.assertRaises(NoPlace, ask, 1, [], [[1, 0]], [0])

    def test_sites_told_twice_are_refused(self):
        for ask in (wells, shy):
            for sites in ([0, 0], [1, 2, 1], [3, 2, 1, 0, 3], [0] * 400):
                for houses in ([], [[0, 0]], [[0, 0], [3, 99]]):
                    self.assertRaises(NoSite, ask, *FORK, houses, sites)
            self.assertRaises(NoSite, ask, 1, [], [], [0, 0])

    def test_no_tree_goes_ahead_of_all(self):
        for many, roads in NO_TREES:
            for houses, sites in (([], []), ([[0, 0]], [0]), ([[-1, 0]], [0]), ([], [0, 0]), ([[0, 0]], [HUGE])):
                self.assertRaises(NoTree, wells, many, roads, houses, sites)
                self.assertRaises(NoTree, shy, many, roads, houses, sites)


class Serves(unittest.TestCase):
    def test_by_definition(self):
        for many, roads in all_trees():
            table = fars(many, roads)
            for site in range(many):
                for place in range(many):
                    for reach in {0, 1, *table[place]} | {max(0, length - 1) for length in table[place]}:
                        self.assertIs(serves(many, roads, site, [place, reach]), table[site][place] <= reach)

    def test_by_hand(self):
        self.assertIs(serves(*FORK, 0, [3, 12]), True)
        self.assertIs(serves(*FORK, 0, [3, 11]), False)
        self.assertIs(serves(*FORK, 2, [2, 0]), True)
        self.assertIs(serves(1, [], 0, [0, 0]), True)

    def test_no_tree_then_no_place(self):
        for number in NO_PLACES:
            self.assertRaises(NoPlace, serves, *FORK, number, [0, 1])
            self.assertRaises(NoPlace, serves, *FORK, 0, [number, 1])
            self.assertRaises(NoPlace, serves, *FORK, number, [number, 0])
        for many, roads in NO_TREES:
            self.assertRaises(NoTree, serves, many, roads, 0, [0, 1])
            self.assertRaises(NoTree, serves, many, roads, -1, [99, 1])


if __name__ == "__main__":
    unittest.main()
