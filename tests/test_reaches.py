import itertools
import random
import unittest

from samples import FORK, GREAT, HUGE, NO_TREES, all_trees, chance_sites, fars, is_rising, small_trees, subsets
from treewells.errors import NoPlace, NoSite, NoTree
from treewells.reaches import best_wells, least_reach, why_reach
from treewells.wells import wells

NO_PLACES = (-1, 4, 12, HUGE, -HUGE, True)
ASKS = (least_reach, best_wells, why_reach)


def reach_by_search(table, homes, sites, count):
    """By trying all lists of one site or more, at most count of them."""
    some_sites = [some for some in subsets(sites)[1:] if len(some) <= count]
    return min(max([min(table[home][site] for site in some) for home in homes], default=0) for some in some_sites)


def chance_homes(chance, many, most):
    return [chance.randrange(many) for _ in range(chance.randint(0, most))]


class Reaches(unittest.TestCase):
    def check(self, many, roads, table, homes, sites, count):
        """The wells reach all homes, and the paper shows that with one less no wells do."""
        case = (many, roads, homes, sites, count)
        reach, dug, why = least_reach(*case), best_wells(*case), why_reach(*case)
        self.assertIsInstance(dug, list, case)
        self.assertTrue(is_rising(dug) and set(dug) <= set(sites) and len(dug) <= count, case)
        self.assertTrue(all(any(table[home][site] <= reach for site in dug) for home in homes), case)
        self.assertIsInstance(why, list, case)
        if reach == 0:
            self.assertEqual(why, [], case)
        else:
            self.assertTrue(is_rising(why) and set(why) <= set(range(len(homes))), case)
            served = [site for number in why for site in sites if table[homes[number]][site] < reach]
            self.assertEqual(len(served), len(set(served)), case)
            self.assertTrue(len(why) == count + 1 or len(why) == 1 and served == [], case)
        return reach, dug, why

    def test_all_short_lists_at_trees_of_up_to_three_places(self):
        for many, roads in small_trees()[:9]:
            table = fars(many, roads)
            for size in range(4):
                for homes in itertools.product(range(many), repeat=size):
                    for sites in subsets(range(many))[1:]:
                        for count in (1, 2, 3, 4):
                            reach = self.check(many, roads, table, list(homes), sites, count)[0]
                            self.assertEqual(reach, reach_by_search(table, homes, sites, count))

    def test_against_a_plain_search_at_all_trees(self):
        chance = random.Random(8)
        for many, roads in all_trees():
            table = fars(many, roads)
            for _ in range(4):
                homes, sites = chance_homes(chance, many, 10), chance_sites(chance, many, 1)
                count = chance.choice((1, 2, 3, many))
                reach = self.check(many, roads, table, homes, sites, count)[0]
                self.assertEqual(reach, reach_by_search(table, homes, sites, count), (many, roads, homes, sites, count))

    def test_the_paper_is_of_either_sort(self):
        chance = random.Random(9)
        sizes = set()
        for many, roads in all_trees():
            table = fars(many, roads)
            for count in range(1, many + 1):
                case = (list(range(many)), chance_sites(chance, many, 1), count)
                sizes.add((count, len(self.check(many, roads, table, *case)[2])))
        self.assertEqual({(1, 0), (1, 1), (1, 2), (2, 1), (2, 3), (5, 1), (5, 6), (8, 9)} - sizes, set())

    def test_it_is_the_least_for_which_no_more_wells_are_needed(self):
        chance = random.Random(10)
        for many, roads in all_trees():
            homes, sites = chance_homes(chance, many, 12), chance_sites(chance, many, 1)
            for count in (1, 2, 4):
                reach = least_reach(many, roads, homes, sites, count)
                self.assertLessEqual(len(wells(many, roads, [[home, reach] for home in homes], sites)), count)
                if reach > 0:
                    dug = wells(many, roads, [[home, reach - 1] for home in homes], sites)
                    self.assertTrue(dug is None or len(dug) > count)

    def test_without_homes(self):
        for many, roads in all_trees():
            for sites in ([0], [many - 1], list(range(many))):
                for count in (1, 2, HUGE):
                    self.assertEqual(least_reach(many, roads, [], sites, count), 0)
                    self.assertEqual(why_reach(many, roads, [], sites, count), [])
                    dug = best_wells(many, roads, [], sites, count)
                    self.assertTrue(is_rising(dug) and set(dug) <= set(sites) and len(dug) <= count)

    def test_homes_at_sites_need_no_reach(self):
        for many, roads in all_trees():
            everywhere = list(range(many))
            for homes in ([0], [many - 1] * 3, everywhere, everywhere * 2):
                for count in (len(set(homes)), HUGE):
                    self.assertEqual(least_reach(many, roads, homes, everywhere, count), 0)
                    self.assertEqual(best_wells(many, roads, homes, everywhere, count), sorted(set(homes)))
                    self.assertEqual(why_reach(many, roads, homes, everywhere, count), [])

    def test_homes_told_more_than_once(self):
        chance = random.Random(12)
        for many, roads in all_trees():
            table = fars(many, roads)
            homes, sites = chance_homes(chance, many, 8), chance_sites(chance, many, 1)
            for count in (1, 3):
                reach = self.check(many, roads, table, homes, sites, count)[0]
                again = self.check(many, roads, table, homes + homes[::-1] + homes, sites, count)[0]
                self.assertEqual(reach, again)

    def test_lists_of_four_hundred_homes(self):
        chance = random.Random(13)
        for many, roads in all_trees()[-21:]:
            homes = [chance.randrange(many) for _ in range(400)]
            for count in (1, 2, 5, HUGE):
                self.check(many, roads, fars(many, roads), homes, chance_sites(chance, many, 1), count)

    def test_by_hand(self):
        everywhere = [3, 0, 2, 1]
        rights = ((1, 7, [[1]]), (2, 5, [[1, 3]]), (3, 2, [[0, 1, 3], [0, 2, 3]]), (4, 0, [[0, 1, 2, 3]]))
        for count, reach, rightly_dug in rights:
            self.assertEqual(least_reach(*FORK, [0, 1, 2, 3], everywhere, count), reach)
            self.assertIn(best_wells(*FORK, [0, 1, 2, 3], everywhere, count), rightly_dug)
        self.assertEqual(why_reach(*FORK, [0, 1, 2, 3], everywhere, 3), [0, 1, 2, 3])
        self.assertEqual(why_reach(*FORK, [0, 3], everywhere, 1), [0, 1])
        self.assertEqual(least_reach(*FORK, [0, 3, 2], [0], 3), 12)
        self.assertEqual(why_reach(*FORK, [0, 3, 2], [0], 3), [1])
        self.assertEqual(best_wells(*FORK, [0, 3, 2], [0], 3), [0])

    def test_a_tree_of_one_place(self):
        for homes in ([], [0], [0, 0, 0]):
            self.assertEqual(least_reach(1, [], homes, [0], 1), 0)
            self.assertEqual(why_reach(1, [], homes, [0], 1), [])
        self.assertEqual(best_wells(1, [], [0, 0], [0], 1), [0])

    def test_lengths_of_forty_figures(self):
        row = (12, [[k + 1, k, GREAT] for k in range(11)])
        self.assertEqual(least_reach(*row, [0, 11], list(range(12)), 1), 6 * GREAT)
        self.assertEqual(least_reach(*row, [11, 0], [0], 1), 11 * GREAT)
        self.assertEqual(why_reach(*row, [11, 0], [0], 1), [0])

    def test_a_count_below_one_or_no_sites_or_sites_told_twice(self):
        for ask in ASKS:
            for homes in ([], [0], [0, 3, 3]):
                for count in (0, -1, -HUGE, True):
                    for sites in ([0], [], [1, 1], [0, 1, 2, 3]):
                        self.assertRaises(NoSite, ask, *FORK, homes, sites, count)
                for count in (1, 4, HUGE, 0):
                    for sites in ([], [1, 1], [0, 3, 0], [2] * 400):
                        self.assertRaises(NoSite, ask, *FORK, homes, sites, count)
            self.assertRaises(NoSite, ask, 1, [], [], [], 1)
            self.assertRaises(NoSite, ask, 1, [], [], [0], 0)

    def test_no_place_goes_ahead_of_no_site(self):
        for ask in ASKS:
            for number in NO_PLACES:
                for count in (1, 0, -1):
                    for sites in ([0, 1], [], [2, 2]):
                        self.assertRaises(NoPlace, ask, *FORK, [number], sites, count)
                        self.assertRaises(NoPlace, ask, *FORK, [0, 3, number], sites, count)
                        self.assertRaises(NoPlace, ask, *FORK, [0], sites + [number], count)
                        self.assertRaises(NoPlace, ask, *FORK, [], [number] + sites, count)
                    self.assertRaises(NoPlace, ask, *FORK, [], [number, number], count)

    def test_no_tree_goes_ahead_of_all(self):
        for ask in ASKS:
            for many, roads in NO_TREES:
                for homes, sites in (([], [0]), ([0], [0]), ([-1], [HUGE]), ([], []), ([], [0, 0])):
                    self.assertRaises(NoTree, ask, many, roads, homes, sites, 1)
                    self.assertRaises(NoTree, ask, many, roads, homes, sites, 0)


if __name__ == "__main__":
    unittest.main()
