import itertools
import unittest

from samples import FORK, GREAT, HUGE, NO_TREES, all_trees, between, fars, has_road, small_trees
from treewells.errors import NoPlace, NoRoad, NoTree
from treewells.trees import beyond, far, hull, is_lump, is_tree, leaves, odd_places, way

NO_PLACES = (-1, 4, 12, HUGE, -HUGE, True)


def is_tree_by_definition(many, roads):
    if not 1 <= many <= 12 or len(roads) != many - 1:
        return False
    for road in roads:
        if len(road) != 3 or road[2] < 1 or road[0] == road[1]:
            return False
        if road[0] not in range(many) or road[1] not in range(many):
            return False
    groups = list(range(many))
    for a, b, _ in roads:
        groups = [groups[a] if group == groups[b] else group for group in groups]
    return len(set(groups)) == 1


class IsTree(unittest.TestCase):
    def test_trees_of_one_to_twelve_places(self):
        sizes = set()
        for many, roads in all_trees():
            self.assertIs(is_tree(many, roads), True, (many, roads))
            sizes.add(many)
        self.assertEqual(sizes, set(range(1, 13)))

    def test_there_are_as_many_trees_as_cayley_counts(self):
        for many, count in ((2, 1), (3, 3), (4, 16), (5, 125)):
            pairs = [[a, b, 1] for a in range(many) for b in range(a)]
            told = [is_tree(many, list(roads)) for roads in itertools.combinations(pairs, many - 1)]
            self.assertEqual(told.count(True), count)

    def test_any_two_rows_of_three_places(self):
        rows = [list(row) for row in itertools.product(range(-1, 4), range(-1, 4), (0, 1))]
        for roads in itertools.product(rows, repeat=2):
            self.assertIs(is_tree(3, list(roads)), is_tree_by_definition(3, roads), roads)

    def test_too_few_or_too_many_roads(self):
        for many, roads in all_trees():
            self.assertIs(is_tree(many, roads + [[0, many - 1, 1]]), False)
            self.assertIs(is_tree(many + 1, roads), False)
            if many > 1:
                self.assertIs(is_tree(many, roads[1:]), False)
                self.assertIs(is_tree(many, roads + roads[:1]), False)
                self.assertIs(is_tree(many - 1, roads), False)

    def test_no_places_or_thirteen(self):
        self.assertIs(is_tree(0, []), False)
        self.assertIs(is_tree(-1, []), False)
        self.assertIs(is_tree(12, [[0, k, 1] for k in range(1, 12)]), True)
        self.assertIs(is_tree(13, [[0, k, 1] for k in range(1, 13)]), False)

    def test_a_number_that_is_no_place(self):
        for number in (-1, 3, 12, HUGE, -HUGE):
            self.assertIs(is_tree(3, [[0, 1, 1], [1, number, 1]]), False, number)
            self.assertIs(is_tree(3, [[0, 1, 1], [number, 1, 1]]), False, number)

    def test_a_road_to_itself(self):
        self.assertIs(is_tree(1, [[0, 0, 1]]), False)
        self.assertIs(is_tree(2, [[1, 1, 1]]), False)
        self.assertIs(is_tree(3, [[0, 1, 1], [2, 2, 1]]), False)

    def test_a_length_below_one(self):
        self.assertIs(is_tree(2, [[0, 1, 1]]), True)
        for length in (0, -1, -HUGE):
            self.assertIs(is_tree(2, [[0, 1, length]]), False)

    def test_a_row_of_another_size(self):
        for row in ([], [0], [0, 1], [0, 1, 1, 1]):
            self.assertIs(is_tree(2, [row]), False, row)

    def test_a_road_told_twice(self):
        self.assertIs(is_tree(3, [[0, 1, 1], [0, 1, 1]]), False)
        self.assertIs(is_tree(3, [[0, 1, 1], [1, 0, 2]]), False)

    def test_a_ring_beside_a_parted_piece(self):
        self.assertIs(is_tree(4, [[0, 1, 1], [1, 2, 1], [2, 0, 1]]), False)
        self.assertIs(is_tree(4, [[1, 2, 1], [2, 3, 1], [3, 1, 1]]), False)
        self.assertIs(is_tree(6, [[0, 1, 1], [2, 3, 1], [3, 4, 1], [4, 5, 1], [5, 2, 1]]), False)

    def test_several_places_without_roads(self):
        self.assertIs(is_tree(1, []), True)
        self.assertIs(is_tree(2, []), False)
        self.assertIs(is_tree(12, []), False)

    def test_very_great_numbers_and_long_rows(self):
        self.assertIs(is_tree(HUGE, []), False)
        self.assertIs(is_tree(-HUGE, []), False)
        self.assertIs(is_tree(HUGE, [[HUGE, HUGE - 1, HUGE]]), False)
        self.assertIs(is_tree(2, [[0, 1, GREAT]]), True)
        self.assertIs(is_tree(401, [[0, k, 1] for k in range(1, 401)]), False)
        self.assertIs(is_tree(2, [[0, 1, 1] * 100]), False)

    def test_a_truth_is_no_whole_number(self):
        self.assertIs(is_tree(True, []), False)
        for row in ([False, 1, 1], [0, True, 1], [0, 1, True]):
            self.assertIs(is_tree(2, [row]), False)

    def test_every_other_function_refuses_what_is_none_ahead_of_all(self):
        for many, roads in NO_TREES:
            for ask in (lambda: way(many, roads, -1, 99), lambda: far(many, roads, -1, 99),
                        lambda: beyond(many, roads, -1, 99), lambda: beyond(many, roads, 0, 0),
                        lambda: is_lump(many, roads, [0]), lambda: is_lump(many, roads, []),
                        lambda: hull(many, roads, []), lambda: hull(many, roads, [-1]),
                        lambda: leaves(many, roads), lambda: odd_places(many, roads)):
                self.assertRaises(NoTree, ask)


class WayAndFar(unittest.TestCase):
    def test_between_any_two_places(self):
        for many, roads in all_trees():
            table = fars(many, roads)
            for a in range(many):
                for b in range(many):
                    self.assertEqual(way(many, roads, a, b), between(table, a, b))
                    self.assertEqual(far(many, roads, a, b), table[a][b])

    def test_a_tree_by_hand(self):
        self.assertEqual(way(*FORK, 0, 3), [0, 1, 3])
        self.assertEqual(way(*FORK, 3, 0), [3, 1, 0])
        self.assertEqual(far(*FORK, 0, 3), 12)
        self.assertEqual(far(*FORK, 3, 2), 9)
        self.assertEqual(far(*FORK, 1, 2), 2)

    def test_from_a_place_to_itself(self):
        self.assertEqual(way(1, [], 0, 0), [0])
        self.assertEqual(far(1, [], 0, 0), 0)
        self.assertEqual(way(*FORK, 2, 2), [2])
        self.assertEqual(far(*FORK, 2, 2), 0)

    def test_lengths_of_forty_figures(self):
        roads = [[k + 1, k, GREAT] for k in range(11)]
        self.assertEqual(far(12, roads, 0, 11), 11 * GREAT)
        self.assertEqual(way(12, roads, 11, 0), list(range(11, -1, -1)))

    def test_what_is_no_place_is_refused(self):
        for number in NO_PLACES:
            for ask in (way, far):
                self.assertRaises(NoPlace, ask, *FORK, number, 0)
                self.assertRaises(NoPlace, ask, *FORK, 0, number)
                self.assertRaises(NoPlace, ask, *FORK, number, number)
        self.assertRaises(NoPlace, way, 1, [], 0, 1)


class Beyond(unittest.TestCase):
    def test_both_ways_along_each_road(self):
        for many, roads in all_trees():
            table = fars(many, roads)
            for road in roads:
                for a, b in (road[:2], road[1::-1]):
                    right = [c for c in range(many) if between(table, a, c)[1:2] == [b]]
                    self.assertEqual(beyond(many, roads, a, b), right)

    def test_a_tree_by_hand(self):
        self.assertEqual(beyond(*FORK, 0, 1), [1, 2, 3])
        self.assertEqual(beyond(*FORK, 1, 0), [0])

    def test_no_neighbours_are_refused(self):
        for many, roads in small_trees():
            for a in range(many):
                for b in range(many):
                    if not has_road(roads, a, b):
                        self.assertRaises(NoRoad, beyond, many, roads, a, b)

    def test_no_place_goes_ahead_of_no_road(self):
        for number in NO_PLACES:
            self.assertRaises(NoPlace, beyond, *FORK, 0, number)
            self.assertRaises(NoPlace, beyond, *FORK, number, 0)
            self.assertRaises(NoPlace, beyond, *FORK, number, number)


class Lumps(unittest.TestCase):
    def is_lump_by_definition(self, table, some):
        if some == [] or len(set(some)) != len(some) or set(some) - set(range(len(table))):
            return False
        return all(set(between(table, a, b)) <= set(some) for a in some for b in some)

    def test_any_short_list(self):
        for many, roads in small_trees():
            table = fars(many, roads)
            for size in range(4):
                for some in itertools.product(range(-1, many + 1), repeat=size):
                    told = is_lump(many, roads, list(some))
                    self.assertIs(told, self.is_lump_by_definition(table, list(some)), (many, roads, some))

    def test_any_set_of_places(self):
        for many, roads in all_trees()[::7]:
            table = fars(many, roads)
            for mask in range(2 ** many):
                some = [place for place in range(many - 1, -1, -1) if mask >> place & 1]
                self.assertIs(is_lump(many, roads, some), self.is_lump_by_definition(table, some))

    def test_a_tree_by_hand(self):
        for some in ([0], [1, 0], [3, 1, 2], [0, 1, 2, 3]):
            self.assertIs(is_lump(*FORK, some), True, some)
        for some in ([], [0, 0], [1, 0, 1], [0, 3], [4], [-1], [0, 1, 4], [0, 1, -1], [True], [0, True],
                     [HUGE], [-HUGE], list(range(400)), [0] * 400):
            self.assertIs(is_lump(*FORK, some), False, some)

    def test_a_tree_of_one_place(self):
        self.assertIs(is_lump(1, [], [0]), True)
        self.assertIs(is_lump(1, [], []), False)
        self.assertIs(is_lump(1, [], [1]), False)


class Hulls(unittest.TestCase):
    def test_of_any_short_list(self):
        for many, roads in all_trees():
            table = fars(many, roads)
            for size in range(4 if many < 8 else 3):
                for some in itertools.product(range(many), repeat=size):
                    right = {c for a in some for b in some for c in between(table, a, b)}
                    self.assertEqual(hull(many, roads, list(some)), sorted(right))

    def test_it_is_the_least_lump(self):
        for many, roads in small_trees():
            masks = range(1, 2 ** many)
            lumps = [mask for mask in masks if is_lump(many, roads, [p for p in range(many) if mask >> p & 1])]
            for mask in masks:
                told = hull(many, roads, [p for p in range(many) if mask >> p & 1])
                holding = [lump for lump in lumps if lump & mask == mask]
                least = min(holding, key=lambda lump: bin(lump).count("1"))
                self.assertEqual(told, [p for p in range(many) if least >> p & 1])

    def test_by_hand(self):
        self.assertEqual(hull(*FORK, []), [])
        self.assertEqual(hull(1, [], []), [])
        self.assertEqual(hull(1, [], [0, 0]), [0])
        self.assertEqual(hull(*FORK, [2]), [2])
        self.assertEqual(hull(*FORK, [3, 0, 3, 0]), [0, 1, 3])
        self.assertEqual(hull(*FORK, [3, 2, 0] * 133), [0, 1, 2, 3])

    def test_what_is_no_place_is_refused(self):
        for number in NO_PLACES:
            for some in ([number], [0, number], [number, 0], [0] * 399 + [number]):
                self.assertRaises(NoPlace, hull, *FORK, some)


class LeavesAndOddPlaces(unittest.TestCase):
    def test_by_definition(self):
        for many, roads in all_trees():
            counts = [len([b for b in range(many) if has_road(roads, a, b)]) for a in range(many)]
            self.assertEqual(leaves(many, roads), [p for p in range(many) if counts[p] == 1])
            self.assertEqual(odd_places(many, roads), [p for p in range(many) if counts[p] % 2 == 1])

    def test_by_hand(self):
        self.assertEqual(leaves(1, []), [])
        self.assertEqual(odd_places(1, []), [])
        self.assertEqual(leaves(2, [[1, 0, 9]]), [0, 1])
        self.assertEqual(leaves(*FORK), [0, 2, 3])
        self.assertEqual(odd_places(*FORK), [0, 1, 2, 3])
        self.assertEqual(odd_places(3, [[0, 1, 1], [1, 2, 1]]), [0, 2])


if __name__ == "__main__":
    unittest.main()
