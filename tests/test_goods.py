import itertools
import random
import unittest

from samples import FORK, GREAT, HUGE, NO_TREES, all_trees, between, chance_gives, fars, small_trees
from treewells.errors import NoGift, NoPlace, NoTree
from treewells.goods import are_levels, are_sendings, cost_of, least_cost, levels, loads, pay, sendings

NO_PLACES = (-1, 4, 12, HUGE, -HUGE, True)
NO_GIVES = ([], [0], [0, 0, 0], [0, 0, 0, 0, 0], [1, 0, 0, 0], [0, 0, 0, -1], [1, 1, -1, 0], [GREAT, -GREAT, 0, 1],
            [GREAT, 0, 0, 1 - GREAT], [1, -1], [0] * 400, [True, -1, 0, 0], [0, 0, False, 0])


def are_right(gives, rows):
    """Whether rows are sendings, by definition."""
    places = range(len(gives))
    if not all(len(row) == 3 and row[0] in places and row[1] in places and row[0] != row[1] and row[2] >= 1
               for row in rows):
        return False
    return all(sum(row[2] for row in rows if row[0] == place) - sum(row[2] for row in rows if row[1] == place) == gift
               for place, gift in enumerate(gives))


def cost_by_table(table, rows):
    return sum(amount * table[a][b] for a, b, amount in rows)


def over_roads(table, roads, rows):
    """For each road what goes over it by these rows, less what goes back."""
    found = []
    for a, b, _ in roads:
        forth = back = 0
        for start, goal, amount in rows:
            places = between(table, start, goal)
            steps = list(zip(places, places[1:]))
            forth += amount * ((a, b) in steps)
            back += amount * ((b, a) in steps)
        found.append(forth - back)
    return found


def cost_by_search(table, gives):
    """By trying each way in which single goods may be brought where goods lack."""
    rich = [place for place, gift in enumerate(gives) for _ in range(gift)]
    poor = [place for place, gift in enumerate(gives) for _ in range(-gift)]
    return min(sum(table[a][b] for a, b in zip(rich, order)) for order in itertools.permutations(poor))


def pay_by_search(many, roads, gives):
    """The greatest pay, by trying all levels that have 0 at the first place."""
    most = sum(length for _, _, length in roads)
    choices = itertools.product(range(-most, most + 1), repeat=many - 1)
    right = [(0, *some) for some in choices
             if all(abs((0, *some)[a] - (0, *some)[b]) <= length for a, b, length in roads)]
    return max(sum(-gift * level for gift, level in zip(gives, some)) for some in right)


def few_gives(many, most):
    """All gives of which at most so many goods are sent."""
    found = itertools.product(range(-most, most + 1), repeat=many)
    return [list(gives) for gives in found if sum(gives) == 0 and sum(map(abs, gives)) <= 2 * most]


def chance_sendings(chance, many, rows):
    """Some that do the same with detours: more stops, parts of an amount, and goods that come back."""
    found = []
    for a, b, amount in rows:
        part = chance.randint(0, amount)
        stop = chance.randrange(many)
        found += [[a, b, size] for size in (part, amount - part) if size > 0]
        if stop not in (a, b) and part > 0:
            found[-1:] = [[found[-1][0], stop, found[-1][2]], [stop, found[-1][1], found[-1][2]]]
    if many > 1:
        a, b = chance.sample(range(many), 2)
        found += [[a, b, 3], [b, a, 2], [b, a, 1]] if chance.random() < 0.5 else []
    chance.shuffle(found)
    return found


class Goods(unittest.TestCase):
    def check(self, many, roads, gives):
        """All that is told is right by definition, and cost and pay are alike."""
        case = (many, roads, gives)
        table = fars(many, roads)
        rows, carried, cost, some = sendings(*case), loads(*case), least_cost(*case), levels(*case)
        self.assertIsInstance(rows, list, case)
        self.assertTrue(are_right(gives, rows), case)
        self.assertTrue(are_sendings(*case, rows), case)
        self.assertEqual(cost_by_table(table, rows), cost, case)
        self.assertEqual(cost_of(many, roads, rows), cost, case)
        self.assertLessEqual(len(rows), 300)
        self.assertEqual(carried, over_roads(table, roads, rows), case)
        self.assertEqual(cost, sum(length * abs(load) for (_, _, length), load in zip(roads, carried)), case)
        self.assertIsInstance(some, list, case)
        self.assertEqual(len(some), many, case)
        self.assertTrue(all(abs(some[a] - some[b]) <= length for a, b, length in roads), case)
        self.assertIs(are_levels(many, roads, some), True)
        self.assertTrue(all(abs(level) < 10 ** 50 for level in some), case)
        self.assertEqual(sum(-gift * level for gift, level in zip(gives, some)), cost, case)
        self.assertEqual(pay(gives, some), cost, case)
        return cost

    def test_few_goods_at_trees_of_up_to_four_places(self):
        for many, roads in small_trees()[:41]:
            table = fars(many, roads)
            for gives in few_gives(many, 3):
                self.assertEqual(self.check(many, roads, gives), cost_by_search(table, gives), (many, roads, gives))

    def test_against_a_plain_search_at_all_trees(self):
        chance = random.Random(30)
        for many, roads in all_trees():
            table = fars(many, roads)
            for _ in range(3):
                gives = [0] * many
                for _ in range(chance.randint(0, 5)):
                    gives[chance.randrange(many)] += 1
                    gives[chance.randrange(many)] -= 1
                self.assertEqual(self.check(many, roads, gives), cost_by_search(table, gives), (many, roads, gives))

    def test_no_levels_pay_more(self):
        for many, roads in small_trees()[:41:2]:
            for gives in few_gives(many, 2):
                self.assertEqual(least_cost(many, roads, gives), pay_by_search(many, roads, gives))
        for gives in few_gives(3, 2):
            roads = [[2, 0, 3], [0, 1, 5]]
            self.assertEqual(least_cost(3, roads, gives), pay_by_search(3, roads, gives))

    def test_any_goods_at_all_trees(self):
        chance = random.Random(31)
        for many, roads in all_trees():
            for most in (1, 9, GREAT):
                self.check(many, roads, chance_gives(chance, many, most))

    def test_the_greatest_numbers(self):
        for many in range(2, 13):
            for roads in ([[place + 1, place, GREAT] for place in range(many - 1)],
                          [[0, place + 1, GREAT] for place in range(many - 1)]):
                self.check(many, roads, [GREAT] + [0] * (many - 2) + [-GREAT])
                self.check(many, roads, [-GREAT] + [0] * (many - 2) + [GREAT])
        row = [[place, place + 1, GREAT] for place in range(11)]
        self.assertEqual(self.check(12, row, [GREAT] * 6 + [-GREAT] * 6), 36 * GREAT * GREAT)
        self.assertEqual(loads(12, row, [GREAT] * 6 + [-GREAT] * 6)[5], 6 * GREAT)

    def test_nothing_to_send(self):
        for many, roads in all_trees():
            self.assertEqual(self.check(many, roads, [0] * many), 0)
            self.assertEqual(sendings(many, roads, [0] * many), [])
            self.assertEqual(loads(many, roads, [0] * many), [0] * (many - 1))

    def test_one_place(self):
        self.assertEqual(self.check(1, [], [0]), 0)
        self.assertEqual((sendings(1, [], [0]), loads(1, [], [0]), least_cost(1, [], [0])), ([], [], 0))
        self.assertEqual(cost_of(1, [], []), 0)
        self.assertIs(are_sendings(1, [], [0], []), True)
        self.assertIs(are_sendings(1, [], [0], [[0, 0, 1]]), False)
        for some in ([0], [7], [-HUGE]):
            self.assertIs(are_levels(1, [], some), True)
            self.assertEqual(pay([0], some), 0)

    def test_loads_by_hand(self):
        self.assertEqual(loads(*FORK, [3, 1, -2, -2]), [3, -2, 2])
        self.assertEqual(loads(*FORK, [-3, -1, 2, 2]), [-3, 2, -2])
        self.assertEqual(least_cost(*FORK, [3, 1, -2, -2]), 3 * 5 + 2 * 2 + 2 * 7)
        self.assertEqual(loads(*FORK, [4, -4, 0, 0]), [4, 0, 0])

    def test_loads_are_the_same_for_all_sendings(self):
        chance = random.Random(32)
        for many, roads in all_trees():
            table = fars(many, roads)
            gives = chance_gives(chance, many, 9)
            rows = chance_sendings(chance, many, sendings(many, roads, gives))
            self.assertTrue(are_right(gives, rows))
            self.assertEqual(loads(many, roads, gives), over_roads(table, roads, rows))
            self.assertGreaterEqual(cost_of(many, roads, rows), least_cost(many, roads, gives))

    def test_loads_keep_to_how_roads_are_told(self):
        chance = random.Random(33)
        for many, roads in all_trees():
            gives = chance_gives(chance, many, 99)
            carried = loads(many, roads, gives)
            back = [[b, a, length] for a, b, length in roads]
            self.assertEqual(loads(many, back, gives), [-load for load in carried])
            self.assertEqual(loads(many, roads[::-1], gives), carried[::-1])
            self.assertEqual(least_cost(many, back[::-1], gives), least_cost(many, roads, gives))

    def test_a_longer_road_makes_nothing_cheaper(self):
        chance = random.Random(34)
        for many, roads in all_trees():
            gives = chance_gives(chance, many, 9)
            for number, (a, b, length) in enumerate(roads):
                longer = roads[:number] + [[a, b, length + chance.choice((1, GREAT))]] + roads[number + 1:]
                self.assertGreaterEqual(least_cost(many, longer, gives), least_cost(many, roads, gives))


class Looking(unittest.TestCase):
    """Sendings and levels that are looked at, and their cost and pay."""

    def test_all_short_rows_at_two_and_three_places(self):
        for many, roads, amounts, gifts in ((2, [[0, 1, 4]], (-1, 0, 1, 2), ([0, 0], [1, -1], [-2, 2])),
                                            (3, [[2, 1, 4], [0, 1, 2]], (0, 1), ([0, 0, 0], [1, -1, 0], [1, 1, -2]))):
            some_rows = [list(row) for row in itertools.product(range(-1, many + 1), range(-1, many + 1), amounts)]
            for size in range(3):
                for rows in itertools.product(some_rows, repeat=size):
                    for gives in gifts:
                        told = are_sendings(many, roads, gives, list(rows))
                        self.assertIs(told, are_right(gives, rows), (many, gives, rows))

    def test_right_rows_that_are_not_the_cheapest(self):
        chance = random.Random(35)
        for many, roads in all_trees():
            table = fars(many, roads)
            gives = chance_gives(chance, many, chance.choice((2, 9, GREAT)))
            for _ in range(3):
                rows = chance_sendings(chance, many, sendings(many, roads, gives))
                self.assertIs(are_sendings(many, roads, gives, rows), True, (many, roads, gives, rows))
                self.assertEqual(cost_of(many, roads, rows), cost_by_table(table, rows))

    def test_rows_wrong_in_one_thing_alone(self):
        chance = random.Random(36)
        for many, roads in all_trees()[1:]:
            gives = chance_gives(chance, many, 5)
            rows = sendings(many, roads, gives) + [[0, 1, 2], [1, 0, 2]]
            self.assertIs(are_sendings(many, roads, gives, rows), True)
            for number, (a, b, amount) in enumerate(rows):
                for wrong in ([a, b, amount + 1], [a, b, amount - 1], [b, a, amount], [a, b], [a, b, amount, 0],
                              [a, b, amount, amount], [], [a], [many, b, amount], [a, many, amount], [-1, b, amount],
                              [a, b - many, amount], [a - many, b, amount], [HUGE, b, amount], [a, -HUGE, amount],
                              [a, a, amount], [b, b, amount], [a, b, 0], [a, b, -amount], [b, a, -amount],
                              [a, b, HUGE]):
                    told = are_sendings(many, roads, gives, rows[:number] + [wrong] + rows[number + 1:])
                    self.assertIs(told, False, (many, roads, gives, wrong))
                self.assertIs(are_sendings(many, roads, gives, rows[:number] + rows[number + 1:]), False)

    def test_a_row_that_sends_nothing_makes_rows_wrong(self):
        for row in ([0, 1, 0], [0, 0, 1], [2, 2, 0], [0, 0, 0]):
            self.assertIs(are_sendings(*FORK, [1, -1, 0, 0], [[0, 1, 1], row]), False)
            self.assertIs(are_sendings(*FORK, [0, 0, 0, 0], [row]), False)
        self.assertIs(are_sendings(*FORK, [0, 0, 0, 0], [[0, 1, 2], [0, 1, -2]]), False)
        for row in ([0, 1, True], [False, 1, 1], [0, True, 1]):
            self.assertIs(are_sendings(*FORK, [1, -1, 0, 0], [row]), False)

    def test_many_rows(self):
        chance = random.Random(37)
        for many, roads in all_trees()[-20:]:
            table = fars(many, roads)
            rows = [[*chance.sample(range(many), 2), chance.randint(1, HUGE)] for _ in range(300)]
            gives = [0] * many
            for a, b, amount in rows:
                gives[a] += amount
                gives[b] -= amount
            self.assertIs(are_sendings(many, roads, gives, rows), True)
            self.assertIs(are_sendings(many, roads, gives, rows[1:]), False)
            self.assertEqual(cost_of(many, roads, rows), cost_by_table(table, rows))

    def test_cost_by_hand(self):
        self.assertEqual(cost_of(*FORK, []), 0)
        self.assertEqual(cost_of(*FORK, [[0, 3, 2], [3, 2, 1], [3, 2, 1]]), 2 * 12 + 9 + 9)
        self.assertEqual(cost_of(*FORK, [[2, 1, HUGE]]), 2 * HUGE)

    def test_all_small_levels(self):
        for many, roads in small_trees()[:41]:
            lowest = -2 if many < 4 else -1
            for some in itertools.product(range(lowest, 3), repeat=many):
                right = all(abs(some[a] - some[b]) <= length for a, b, length in roads)
                self.assertIs(are_levels(many, roads, list(some)), right, (many, roads, some))

    def test_levels_that_just_hold_and_just_not(self):
        chance = random.Random(38)
        for many, roads in all_trees():
            table = fars(many, roads)
            start = chance.randrange(many)
            for base in (0, HUGE, -HUGE):
                for sign in (1, -1):
                    some = [base + sign * table[start][place] for place in range(many)]
                    self.assertIs(are_levels(many, roads, some), True)
                    if many > 1:
                        self.assertIs(are_levels(many, roads, some[:start] + [base - sign] + some[start + 1:]), False)
                    for wrong in (some[:-1], some + [some[-1]], [], some * 2):
                        self.assertIs(are_levels(many, roads, wrong), False)

    def test_no_levels_of_many_numbers(self):
        for many, roads in all_trees():
            self.assertIs(are_levels(many, roads, [0] * 400), False)
        self.assertIs(are_levels(*FORK, [0, 0, 0, True]), False)

    def test_pay_by_hand(self):
        self.assertEqual(pay([3, 1, -2, -2], [0, 5, 7, 12]), -5 + 14 + 24)
        self.assertEqual(pay([3, 1, -2, -2], [-4, 1, 3, 8]), 12 - 1 + 6 + 16)
        self.assertEqual(pay([1, -1], [HUGE, -HUGE]), -2 * HUGE)
        self.assertEqual(pay([0, 0], [3, 4]), 0)

    def test_pay_is_never_more_than_a_cost(self):
        chance = random.Random(39)
        for many, roads in all_trees():
            gives = chance_gives(chance, many, 9)
            rows = chance_sendings(chance, many, sendings(many, roads, gives))
            table = fars(many, roads)
            for start in range(many):
                some = [-table[start][place] // 2 for place in range(many)]
                self.assertIs(are_levels(many, roads, some), True)
                self.assertLessEqual(pay(gives, some), cost_of(many, roads, rows))


class Refused(unittest.TestCase):
    def test_wrong_gives(self):
        for gives in NO_GIVES:
            for ask in (sendings, loads, least_cost, levels):
                self.assertRaises(NoGift, ask, *FORK, gives)
            for rows in ([], [[0, 1, 1]], [[0, 4, 1]], [[0]]):
                self.assertRaises(NoGift, are_sendings, *FORK, gives, rows)
        for gives in ([], [1], [-1], [0, 0], [1, -1], [GREAT]):
            for ask in (sendings, loads, least_cost, levels):
                self.assertRaises(NoGift, ask, 1, [], gives)

    def test_gives_that_pay_nothing(self):
        for gives in NO_GIVES:
            self.assertRaises(NoGift, pay, gives, [0, 5, 7, 12])

    def test_no_tree_goes_ahead(self):
        for many, roads in NO_TREES:
            for gives in ([0], [0, 0], [1, -1], [1], [], [0, 0, 0, 0]):
                for ask in (sendings, loads, least_cost, levels, are_levels):
                    self.assertRaises(NoTree, ask, many, roads, gives)
                for rows in ([], [[0, 1, 1]], [[0]], [[HUGE, 0, 1]]):
                    self.assertRaises(NoTree, are_sendings, many, roads, gives, rows)
            for rows in ([], [[0, 1, 1]], [[HUGE, 0, 1]]):
                self.assertRaises(NoTree, cost_of, many, roads, rows)

    def test_cost_of_rows_with_a_number_that_is_no_place(self):
        for place in NO_PLACES:
            for rows in ([[place, 0, 1]], [[0, place, 1]], [[0, 1, 1], [2, place, 1]]):
                self.assertRaises(NoPlace, cost_of, *FORK, rows)


if __name__ == "__main__":
    unittest.main()
