import itertools
import random
import unittest

from samples import FORK, GREAT, HUGE, NO_TREES, all_trees, between, fars, has_road, small_trees, subsets
from treewells.errors import NoPlace, NoRoad, NoTree
from treewells.rounds import length_of, line_by, needed, round_by, sweeps, walks

NO_PLACES = (-1, 4, 12, HUGE, -HUGE, True)


def steps_of(places):
    """The roads that a list of places goes along, each with its lesser place first."""
    return [tuple(sorted(pair)) for pair in zip(places, places[1:])]


def pairs_of(roads):
    return sorted(tuple(sorted(road[:2])) for road in roads)


def degrees(many, roads):
    return [sum(place in road[:2] for road in roads) for place in range(many)]


def fewest(many, roads, most):
    """How few walks go over each road once at least and so often at most, by trying all lists of walks."""
    table = fars(many, roads)
    every = [steps_of(between(table, a, b)) for a, b in itertools.combinations(range(many), 2)]
    for size in range(many):
        for some in itertools.combinations(every, size):
            passed = [step for steps in some for step in steps]
            if all(1 <= passed.count(pair) <= most for pair in pairs_of(roads)):
                return size


def length_by_table(table, places):
    return sum(table[a][b] for a, b in zip(places, places[1:]))


def round_by_search(table, some):
    """By trying each order in which the places may be come by."""
    orders = itertools.permutations(sorted(set(some)))
    return min(length_by_table(table, order + order[:1]) for order in orders)


def line_by_search(table, start, some):
    orders = itertools.permutations(sorted(set(some)))
    return min(length_by_table(table, (start,) + order) for order in orders)


def parting(table, roads, some):
    """The roads that part some of the places from others."""
    return [road for road in roads if len({table[road[0]][place] < table[road[1]][place] for place in some}) == 2]


def chance_places(chance, many, most):
    return [chance.randrange(many) for _ in range(chance.randint(1, most))]


class Sweeping(unittest.TestCase):
    def check_rows(self, many, roads, rows):
        """Each row is a walk: the way between two unlike places."""
        table = fars(many, roads)
        self.assertIsInstance(rows, list, roads)
        for row in rows:
            self.assertIsInstance(row, list, roads)
            self.assertGreaterEqual(len(row), 2, roads)
            self.assertEqual(row, between(table, row[0], row[-1]), roads)

    def check_walks(self, many, roads):
        rows = walks(many, roads)
        self.check_rows(many, roads, rows)
        self.assertEqual(sorted(step for row in rows for step in steps_of(row)), pairs_of(roads), roads)
        self.assertEqual(2 * len(rows), sum(degree % 2 for degree in degrees(many, roads)), roads)
        return len(rows)

    def check_sweeps(self, many, roads):
        rows = sweeps(many, roads)
        self.check_rows(many, roads, rows)
        self.assertEqual(sorted({step for row in rows for step in steps_of(row)}), pairs_of(roads), roads)
        self.assertEqual(len(rows), (degrees(many, roads).count(1) + 1) // 2, roads)
        return len(rows)

    def test_all_trees(self):
        for many, roads in all_trees():
            self.check_walks(many, roads)
            self.check_sweeps(many, roads)

    def test_many_more_trees(self):
        chance = random.Random(40)
        for _ in range(600):
            many = chance.randint(6, 12)
            names = chance.sample(range(many), many)
            pairs = [[names[chance.randrange(number)], names[number]] for number in range(1, many)]
            roads = [chance.sample(pair, 2) + [chance.randint(1, 9)] for pair in pairs]
            chance.shuffle(roads)
            self.check_walks(many, roads)
            self.check_sweeps(many, roads)

    def test_against_a_plain_search(self):
        for many, roads in small_trees():
            if all(length == 1 for _, _, length in roads):
                self.assertEqual(self.check_walks(many, roads), fewest(many, roads, 1), roads)
                self.assertEqual(self.check_sweeps(many, roads), fewest(many, roads, many), roads)

    def test_one_and_two_places(self):
        self.assertEqual(walks(1, []), [])
        self.assertEqual(sweeps(1, []), [])
        for ask in (walks, sweeps):
            self.assertIn(ask(2, [[1, 0, GREAT]]), ([[0, 1]], [[1, 0]]))

    def test_rows_and_stars(self):
        for many in range(2, 13):
            row = [[place + 1, place, GREAT] for place in range(many - 1)]
            self.assertEqual((self.check_walks(many, row), self.check_sweeps(many, row)), (1, 1))
            star = [[0, place + 1, 1] for place in range(many - 1)]
            self.assertEqual((self.check_walks(many, star), self.check_sweeps(many, star)), (many // 2, many // 2))

    def test_fewer_sweeps_than_walks(self):
        roads = [[0, 1, 1], [1, 2, 1], [2, 3, 1], [3, 4, 1], [1, 5, 1], [2, 6, 1], [3, 7, 1]]
        self.assertEqual((self.check_walks(8, roads), self.check_sweeps(8, roads)), (4, 3))

    def test_no_tree_is_refused(self):
        for many, roads in NO_TREES:
            for ask in (walks, sweeps):
                self.assertRaises(NoTree, ask, many, roads)


class Rounds(unittest.TestCase):
    def check_goes(self, roads, places, some):
        self.assertIsInstance(places, list, (roads, some))
        self.assertTrue(all(has_road(roads, a, b) for a, b in zip(places, places[1:])), (roads, places))
        self.assertTrue(set(some) <= set(places), (roads, places, some))

    def check_round(self, many, roads, table, some):
        """A round that goes twice over each needed road and over no other."""
        places = round_by(many, roads, some)
        self.check_goes(roads, places, some)
        self.assertEqual(places[0], places[-1], (roads, some))
        parts = needed(many, roads, some)
        self.assertEqual(parts, parting(table, roads, some), (roads, some))
        self.assertEqual(sorted(steps_of(places)), sorted(2 * pairs_of(parts)), (roads, some))
        length = length_of(many, roads, places)
        self.assertEqual(length, 2 * sum(road[2] for road in parts), (roads, some))
        self.assertEqual(length, length_by_table(table, places))
        return length

    def check_line(self, many, roads, table, start, some):
        places = line_by(many, roads, start, some)
        self.check_goes(roads, places, some)
        self.assertEqual(places[0], start, (roads, some))
        length = length_of(many, roads, places)
        self.assertEqual(length, length_by_table(table, places))
        longest = max([table[start][place] for place in some], default=0)
        twice = 2 * sum(road[2] for road in parting(table, roads, [start] + some))
        self.assertEqual(length, twice - longest, (roads, start, some))
        return length

    def test_all_places_at_small_trees(self):
        for many, roads in small_trees():
            table = fars(many, roads)
            for some in subsets(range(many))[1:]:
                told = some[::-1] + some[:1]
                self.assertEqual(self.check_round(many, roads, table, told), round_by_search(table, some))
                for start in range(many):
                    length = self.check_line(many, roads, table, start, told)
                    self.assertEqual(length, line_by_search(table, start, some), (roads, start, some))

    def test_some_places_at_all_trees(self):
        chance = random.Random(41)
        for many, roads in all_trees():
            table = fars(many, roads)
            for _ in range(4):
                some, start = chance_places(chance, many, 5), chance.randrange(many)
                self.assertEqual(self.check_round(many, roads, table, some), round_by_search(table, some))
                length = self.check_line(many, roads, table, start, some)
                self.assertEqual(length, line_by_search(table, start, some), (roads, start, some))

    def test_many_places_at_all_trees(self):
        chance = random.Random(42)
        for many, roads in all_trees():
            table = fars(many, roads)
            for most in (many, 2 * many, 400):
                some = chance_places(chance, many, most)
                self.check_round(many, roads, table, some)
                self.check_line(many, roads, table, chance.randrange(many), some)
            self.check_round(many, roads, table, list(range(many)))
            self.check_line(many, roads, table, many - 1, [many - 1] * 400)

    def test_no_places(self):
        for many, roads in all_trees():
            self.assertEqual(round_by(many, roads, []), [])
            self.assertEqual(needed(many, roads, []), [])
            self.assertEqual(length_of(many, roads, []), 0)
            for start in range(many):
                self.assertEqual(line_by(many, roads, start, []), [start])

    def test_one_place(self):
        for many, roads in all_trees():
            for place in range(many):
                for some in ([place], [place, place], [place] * 400):
                    self.assertEqual(round_by(many, roads, some), [place])
                    self.assertEqual(needed(many, roads, some), [])
                    self.assertEqual(line_by(many, roads, place, some), [place])
                    self.assertEqual(length_of(many, roads, [place]), 0)

    def test_needed_roads_by_hand(self):
        self.assertEqual(needed(*FORK, [3, 2]), [[2, 1, 2], [1, 3, 7]])
        self.assertEqual(needed(*FORK, [1, 0, 0]), [[0, 1, 5]])
        self.assertEqual(needed(*FORK, [3, 0, 2]), FORK[1])
        self.assertEqual(needed(4, FORK[1][::-1], [0, 2]), [[2, 1, 2], [0, 1, 5]])

    def test_rounds_and_lines_by_hand(self):
        self.assertEqual(length_of(*FORK, round_by(*FORK, [3, 2])), 18)
        self.assertEqual(line_by(*FORK, 0, [3, 2, 1]), [0, 1, 2, 1, 3])
        self.assertEqual(line_by(*FORK, 3, [0, 2]), [3, 1, 2, 1, 0])
        self.assertEqual(line_by(*FORK, 0, [0, 1]), [0, 1])
        self.assertIn(line_by(*FORK, 1, [2, 0, 3]), ([1, 0, 1, 2, 1, 3], [1, 2, 1, 0, 1, 3]))

    def test_lengths(self):
        self.assertEqual(length_of(*FORK, [0, 1, 3, 1, 3, 1, 2]), 5 + 4 * 7 + 2)
        self.assertEqual(length_of(2, [[0, 1, GREAT]], [0, 1] * 200), 399 * GREAT)
        self.assertEqual(length_of(1, [], [0]), 0)

    def test_a_longer_road_makes_no_round_shorter(self):
        chance = random.Random(43)
        for many, roads in all_trees():
            some = chance_places(chance, many, 4)
            before = length_of(many, roads, round_by(many, roads, some))
            for number, (a, b, length) in enumerate(roads):
                longer = roads[:number] + [[a, b, length + chance.choice((1, GREAT))]] + roads[number + 1:]
                after = length_of(many, longer, round_by(many, longer, some))
                self.assertEqual(after > before, roads[number] in needed(many, roads, some))
                self.assertGreaterEqual(after, before)


class Refused(unittest.TestCase):
    def test_numbers_that_are_no_places(self):
        for place in NO_PLACES:
            for some in ([place], [0, place], [place, 1, 1], [0] * 399 + [place]):
                for ask in (round_by, needed, length_of):
                    self.assertRaises(NoPlace, ask, *FORK, some)
                self.assertRaises(NoPlace, line_by, *FORK, 0, some)
                self.assertRaises(NoPlace, line_by, *FORK, place, some)
            self.assertRaises(NoPlace, line_by, *FORK, place, [])
            self.assertRaises(NoPlace, line_by, *FORK, place, [0, 1])

    def test_no_tree_goes_ahead(self):
        for many, roads in NO_TREES:
            for some in ([], [0], [HUGE], [-1, 0]):
                for ask in (round_by, needed, length_of):
                    self.assertRaises(NoTree, ask, many, roads, some)
                for start in (0, -1, HUGE):
                    self.assertRaises(NoTree, line_by, many, roads, start, some)

    def test_length_of_places_that_are_no_neighbours(self):
        for places in ([0, 3], [0, 0], [0, 1, 3, 2]):
            self.assertRaises(NoRoad, length_of, *FORK, places)
        self.assertRaises(NoPlace, length_of, *FORK, [0, 3, 4])


if __name__ == "__main__":
    unittest.main()
