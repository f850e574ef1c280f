import itertools
import unittest

from samples import FORK, GREAT, HUGE, NO_TREES, all_trees, between, fars, has_road, small_trees
from treewells.errors import NoPlace, NoSpot, NoTree, NoWorth
from treewells.middles import balance, branches, ends, middle, spot_far, sum_from

NO_PLACES = (-1, 4, 12, HUGE, -HUGE, True)
NO_WANTS = ([], [1, 1, 1], [1, 1, 1, 1, 1], [0, 0, 0, -1], [-GREAT, 1, 1, 1], [1] * 400, [1, 1, 1, True])
NO_SPOTS = (
    [], [0], [0, 1], [0, 1, 0, 0], [0] * 400, [0, 1, -1], [0, 1, 11], [1, 0, 11], [2, 1, 5], [0, 1, HUGE],
    [0, 0, 1], [0, 0, -1], [0, 2, 0], [0, 3, 1], [4, 4, 0], [-1, -1, 0], [4, 1, 0], [1, 4, 0], [-1, 1, 0],
    [1, -1, 0], [HUGE, HUGE, 0], [HUGE, 0, 0], [0, HUGE, 0], [0, True, 0], [False, 1, 0], [0, 1, True],
)


def wants_for(many):
    """Wants that are none, alike, at one place, mixed and great."""
    return [[0] * many, [1] * many, [0] * (many - 1) + [5], [(7 * place + 3) % 5 for place in range(many)],
            [GREAT - place * place for place in range(many)]]


def halves_by_definition(table, spot, place):
    """The spot parts its road in two, and the way to a place leaves it at the nearer end of that place."""
    a, b, p = spot
    if a == b:
        return 2 * table[a][place]
    if b in between(table, a, place):
        return 2 * table[a][place] - p
    return 2 * table[a][place] + p


class Ends(unittest.TestCase):
    def test_as_far_apart_as_any_two(self):
        for many, roads in all_trees():
            table = fars(many, roads)
            told = ends(many, roads)
            self.assertIsInstance(told, tuple)
            self.assertEqual(len(told), 2)
            self.assertEqual(table[told[0]][told[1]], max(max(row) for row in table), (many, roads))

    def test_by_hand(self):
        self.assertEqual(ends(1, []), (0, 0))
        self.assertEqual(sorted(ends(*FORK)), [0, 3])
        self.assertEqual(sorted(ends(2, [[1, 0, GREAT]])), [0, 1])

    def test_no_tree(self):
        for many, roads in NO_TREES:
            self.assertRaises(NoTree, ends, many, roads)


class Spots(unittest.TestCase):
    def test_from_either_end_to_each_place(self):
        for many, roads in all_trees():
            table = fars(many, roads)
            for a, b, length in roads:
                for p in {0, 1, length, 2 * length - 1, 2 * length}:
                    for place in range(many):
                        right = halves_by_definition(table, [a, b, p], place)
                        self.assertEqual(spot_far(many, roads, [a, b, p], place), right)
                        self.assertEqual(spot_far(many, roads, [b, a, 2 * length - p], place), right)

    def test_a_place_told_twice(self):
        self.assertEqual(spot_far(1, [], [0, 0, 0], 0), 0)
        for many, roads in all_trees():
            table = fars(many, roads)
            for a in range(many):
                for place in range(many):
                    self.assertEqual(spot_far(many, roads, [a, a, 0], place), 2 * table[a][place])

    def test_by_hand(self):
        self.assertEqual(spot_far(*FORK, [0, 1, 3], 0), 3)
        self.assertEqual(spot_far(*FORK, [0, 1, 3], 1), 7)
        self.assertEqual(spot_far(*FORK, [1, 0, 7], 3), 21)
        self.assertEqual(spot_far(*FORK, [1, 3, 14], 2), 18)

    def test_any_row_of_small_numbers(self):
        for many, roads in [(1, []), (3, [[2, 0, 1], [0, 1, 2]]), FORK]:
            table = fars(many, roads)
            for spot in itertools.product(range(-1, many + 1), range(-1, many + 1), range(-1, 16)):
                a, b, p = spot
                at_place = a == b and p == 0 and 0 <= a < many
                if at_place or has_road(roads, a, b) and 0 <= p <= 2 * table[a][b]:
                    right = halves_by_definition(table, spot, many - 1)
                    self.assertEqual(spot_far(many, roads, list(spot), many - 1), right)
                else:
                    self.assertRaises(NoSpot, spot_far, many, roads, list(spot), 0)

    def test_every_other_list_is_refused(self):
        for spot in NO_SPOTS:
            for place in range(4):
                self.assertRaises(NoSpot, spot_far, *FORK, spot, place)

    def test_no_tree_then_no_place_go_ahead(self):
        for number in NO_PLACES:
            for spot in NO_SPOTS + ([0, 1, 3], [0, 0, 0]):
                self.assertRaises(NoPlace, spot_far, *FORK, spot, number)
        for many, roads in NO_TREES:
            self.assertRaises(NoTree, spot_far, many, roads, [0, 0, 0], 0)
            self.assertRaises(NoTree, spot_far, many, roads, [], -1)


class Middles(unittest.TestCase):
    def test_no_place_lies_farther_than_the_ends_are_apart(self):
        for many, roads in all_trees():
            table = fars(many, roads)
            spot = middle(many, roads)
            self.assertIsInstance(spot, list)
            a, b, p = spot
            self.assertTrue(a == b and p == 0 or has_road(roads, a, b) and 0 <= p <= 2 * table[a][b], spot)
            farthest = max(halves_by_definition(table, spot, place) for place in range(many))
            self.assertEqual(farthest, max(max(row) for row in table))
            self.assertEqual(farthest, max(spot_far(many, roads, spot, place) for place in range(many)))

    def same_spot(self, told, right, many, roads):
        for place in range(many):
            self.assertEqual(spot_far(many, roads, told, place), spot_far(many, roads, right, place))

    def test_a_middle_at_a_place(self):
        self.assertEqual(middle(1, []), [0, 0, 0])
        line = (3, [[0, 1, 4], [2, 1, 4]])
        self.same_spot(middle(*line), [1, 1, 0], *line)

    def test_a_middle_within_a_road(self):
        self.same_spot(middle(*FORK), [3, 1, 12], *FORK)
        line = (3, [[0, 1, 1], [1, 2, 5]])
        self.same_spot(middle(*line), [2, 1, 6], *line)

    def test_a_middle_at_half_of_a_length(self):
        self.same_spot(middle(2, [[0, 1, 1]]), [0, 1, 1], 2, [[0, 1, 1]])
        self.same_spot(middle(2, [[1, 0, GREAT]]), [1, 0, GREAT], 2, [[1, 0, GREAT]])
        line = (3, [[0, 1, 2], [1, 2, 5]])
        self.same_spot(middle(*line), [2, 1, 7], *line)

    def test_no_tree(self):
        for many, roads in NO_TREES:
            self.assertRaises(NoTree, middle, many, roads)


class Sums(unittest.TestCase):
    def test_sums_and_balance_by_definition(self):
        for many, roads in all_trees():
            table = fars(many, roads)
            for wants in wants_for(many):
                sums = [sum(want * table[a][b] for b, want in enumerate(wants)) for a in range(many)]
                self.assertEqual([sum_from(many, roads, wants, a) for a in range(many)], sums)
                self.assertEqual(balance(many, roads, wants), sums.index(min(sums)))

    def test_branches_by_definition(self):
        for many, roads in all_trees():
            table = fars(many, roads)
            for wants in wants_for(many):
                for a in range(many):
                    right = []
                    for b in range(many):
                        if has_road(roads, a, b):
                            right.append([b, sum(wants[c] for c in range(many) if b in between(table, a, c))])
                    self.assertEqual(branches(many, roads, wants, a), right)

    def test_least_sum_just_where_no_branch_has_more_than_half(self):
        for many, roads in small_trees()[::9]:
            for wants in itertools.product(range(3), repeat=many):
                wants = list(wants)
                sums = [sum_from(many, roads, wants, a) for a in range(many)]
                for a in range(many):
                    light = all(2 * row[1] <= sum(wants) for row in branches(many, roads, wants, a))
                    self.assertEqual(light, sums[a] == min(sums))

    def test_by_hand(self):
        self.assertEqual(sum_from(*FORK, [1, 2, 3, 4], 0), 2 * 5 + 3 * 7 + 4 * 12)
        self.assertEqual(balance(*FORK, [1, 2, 3, 4]), 1)
        self.assertEqual(balance(*FORK, [0, 0, 0, 1]), 3)
        self.assertEqual(branches(*FORK, [1, 2, 3, 4], 1), [[0, 1], [2, 3], [3, 4]])
        self.assertEqual(branches(*FORK, [1, 2, 3, 4], 3), [[1, 6]])

    def test_the_least_number_of_several(self):
        self.assertEqual(balance(*FORK, [0, 0, 0, 0]), 0)
        self.assertEqual(balance(2, [[1, 0, 3]], [4, 4]), 0)
        self.assertEqual(balance(3, [[2, 1, 3], [0, 2, 1]], [0, 6, 6]), 1)

    def test_a_tree_of_one_place(self):
        self.assertEqual(sum_from(1, [], [GREAT], 0), 0)
        self.assertEqual(balance(1, [], [GREAT]), 0)
        self.assertEqual(branches(1, [], [GREAT], 0), [])

    def test_wrong_wants_are_refused(self):
        for wants in NO_WANTS:
            self.assertRaises(NoWorth, balance, *FORK, wants)
            for place in range(4):
                self.assertRaises(NoWorth, sum_from, *FORK, wants, place)
                self.assertRaises(NoWorth, branches, *FORK, wants, place)
        for ask in (lambda: balance(1, [], []), lambda: balance(1, [], [-1]), lambda: branches(1, [], [0, 0], 0)):
            self.assertRaises(NoWorth, ask)

    def test_no_tree_then_no_place_go_ahead(self):
        for number in NO_PLACES:
            for wants in NO_WANTS + ([1, 1, 1, 1],):
                self.assertRaises(NoPlace, sum_from, *FORK, wants, number)
                self.assertRaises(NoPlace, branches, *FORK, wants, number)
        for many, roads in NO_TREES:
            for wants in ([], [-1]):
                self.assertRaises(NoTree, balance, many, roads, wants)
                self.assertRaises(NoTree, sum_from, many, roads, wants, -1)
                self.assertRaises(NoTree, branches, many, roads, wants, -1)


if __name__ == "__main__":
    unittest.main()
