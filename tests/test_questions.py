import itertools
import random
import unittest

import judges
from askings import Looks, chance_asked
from samples import FORK, GREAT, HUGE, all_trees, fars, small_trees, subsets
from treewells.questions import Balance, Digging, Goods, Middle, Question, Reach, Wells

KINDS = (Middle(), Balance(), Wells(), Reach(), Goods())
ROW = (12, [[place, place + 1, place + 1] for place in range(11)])
ONE = (1, [])


class Classes(unittest.TestCase):
    def test_which_stands_straight_under_which(self):
        self.assertEqual(Question.__bases__, (object,))
        for kind in (Middle, Balance, Digging, Goods):
            self.assertEqual(kind.__bases__, (Question,))
        for kind in (Wells, Reach):
            self.assertEqual(kind.__bases__, (Digging,))

    def test_words(self):
        self.assertEqual([kind.word() for kind in KINDS], ["middle", "balance", "wells", "reach", "goods"])

    def test_the_bases_are_asked_nothing(self):
        for many, roads in all_trees()[:50]:
            for kind in (Question(), Digging()):
                for asked in ([], [[]], [[0]], [[0] * many], [[1], [0], []]):
                    self.assertIs(kind.fits(many, roads, asked), False)


class Fits(Looks, unittest.TestCase):
    check = Looks.check_fits

    def test_middle(self):
        for tree in (ONE, FORK, ROW):
            self.check(Middle(), tree, [[]], [[[]], [[0]], [[], []], [[0, 0, 0]], [[0]] * 400])

    def test_balance(self):
        self.check(Balance(), FORK, [[[0, 0, 0, 0]], [[1, 2, 3, 4]], [[GREAT] * 4], [[0, HUGE, 0, 0]]],
                   [[], [[]], [[0, 0, 0]], [[0] * 5], [[1, 2, -1, 4]], [[-1, 0, 0, 0]], [[0, 0, 0, -GREAT]],
                    [[0] * 4, []], [[0] * 4] * 2, [[], [0] * 4], [[1] * 400], [[0]] * 4, [[0, 0, 0, True]]])
        self.check(Balance(), ONE, [[[0]], [[5]]], [[], [[]], [[-1]], [[0, 0]], [[0], [0]]])
        self.check(Balance(), ROW, [[list(range(12))]], [[[0] * 11], [[0] * 13], [[0] * 11 + [-1]]])

    def test_wells(self):
        self.check(Wells(), FORK,
                   [[[]], [[0]], [[3, 1, 0]], [[], [0, 0]], [[2], [3, GREAT], [3, GREAT]], [[1], [1, 0], [0, HUGE]],
                    [[0]] + [[3, 1]] * 399],
                   [[], [[4]], [[-1]], [[0, 0]], [[1, 2, 1]], [[0], []], [[0], [0]], [[0], [0, 1, 2]], [[0], [4, 1]],
                    [[0], [-1, 1]], [[0], [0, -1]], [[0], [1, 1], [0, -GREAT]], [[0], [HUGE, 1]], [[HUGE], [0, 1]],
                    [[0], [1, 1], [2]], [[0], [1, 1], []], [[0, 1, 2, 3, 0]], [[True]], [[0], [1, True]]])
        self.check(Wells(), ONE, [[[0]], [[]], [[0], [0, 0]], [[], [0, 3]]], [[], [[1]], [[0, 0]], [[0], [1, 0]]])
        self.check(Wells(), ROW, [[list(range(12))[::-1], [11, 4]]], [[[12]], [[0], [12, 0]], [[11, 0, 11]]])

    def test_reach(self):
        self.check(Reach(), FORK,
                   [[[1], [0], []], [[1], [3, 0], [2]], [[HUGE], [0, 1, 2, 3], [3, 3, 0]], [[2], [1], [0] * 400]],
                   [[], [[1]], [[1], [0]], [[1], [0], [0], [0]], [[1], [0], [], []], [[], [0], [0]], [[1, 1], [0], [0]],
                    [[0], [0], [0]], [[-1], [0], [0]], [[-HUGE], [0], [0]], [[1], [], [0]], [[1], [], []],
                    [[1], [0, 0], [0]], [[1], [2, 1, 2], []], [[1], [4], [0]], [[1], [-1], [0]], [[1], [0], [4]],
                    [[1], [0], [0, -1]], [[1], [HUGE], []], [[1], [0], [HUGE]], [[True], [0], [0]]])
        self.check(Reach(), ONE, [[[1], [0], []], [[3], [0], [0, 0]]], [[[1], [1], []], [[1], [0], [1]], [[1], [], []]])
        self.check(Reach(), ROW, [[[12], list(range(12)), [11]]], [[[1], [12], [0]], [[1], [0], [12]]])

    def test_goods(self):
        self.check(Goods(), FORK, [[[0, 0, 0, 0]], [[1, -1, 0, 0]], [[GREAT, -GREAT, HUGE, -HUGE]], [[-3, 1, 1, 1]]],
                   [[], [[]], [[0, 0, 0]], [[0] * 5], [[1, 0, 0, 0]], [[1, -1]], [[1, -1, 0, 0], []], [[0] * 4] * 2,
                    [[], [0] * 4], [[GREAT, 1 - GREAT, 0, 0]], [[0] * 400], [[0]] * 4, [[True, -1, 0, 0]]])
        self.check(Goods(), ONE, [[[0]]], [[], [[]], [[1]], [[-1]], [[0, 0]], [[0], [0]]])
        self.check(Goods(), ROW, [[[1] * 6 + [-1] * 6]], [[[1] * 6 + [-1] * 5], [[1] * 7 + [-1] * 5]])


class Told(Looks, unittest.TestCase):
    check = Looks.check_told

    def test_all_kinds_at_all_trees(self):
        self.check_many_told(KINDS, all_trees(), 3, 50)

    def test_no_spot_is_a_better_middle(self):
        for many, roads in small_trees()[::3]:
            table = fars(many, roads)
            answers = [[[a, b, p]] for a, b, length in roads for p in range(2 * length + 1)] + [[[0, 0, 0]]]
            least = self.least_taken("middle", table, roads, [], answers)
            self.assertEqual(self.check(Middle(), many, roads, table, []), least)

    def test_no_place_is_a_better_balance(self):
        for many, roads in small_trees()[:41]:
            table = fars(many, roads)
            for wants in itertools.product(range(3), repeat=many):
                worth = self.check(Balance(), many, roads, table, [list(wants)])
                self.assertEqual(worth, min(judges.weight(table, wants, place) for place in range(many)))

    def test_no_sites_are_better_wells(self):
        chance = random.Random(51)
        for many, roads in small_trees()[::2]:
            table = fars(many, roads)
            for _ in range(3):
                asked = chance_asked(chance, "wells", many, roads, table)
                answers = [[some] for some in subsets(sorted(asked[0]))]
                least = self.least_taken("wells", table, roads, asked, answers)
                self.assertEqual(self.check(Wells(), many, roads, table, asked), least, (many, roads, asked))

    def test_no_sites_reach_with_less(self):
        chance = random.Random(52)
        for many, roads in small_trees()[::2]:
            table = fars(many, roads)
            for _ in range(3):
                asked = chance_asked(chance, "reach", many, roads, table)
                answers = [[some] for some in subsets(sorted(asked[1]))]
                least = self.least_taken("reach", table, roads, asked, answers)
                self.assertEqual(self.check(Reach(), many, roads, table, asked), least, (many, roads, asked))

    def test_no_sendings_are_cheaper(self):
        for many, roads in small_trees()[1:41]:
            table = fars(many, roads)
            steps = [list(pair) for pair in itertools.permutations(range(many), 2)]
            for a, b, c in itertools.islice(itertools.product(range(many), repeat=3), 0, None, 3):
                gives = [2 * (place == a) - (place == b) - (place == c) for place in range(many)]
                answers = [[]] + [[step + [amount]] for step in steps for amount in (1, 2)]
                answers += [[one + [1], two + [1]] for one in steps for two in steps]
                least = self.least_taken("goods", table, roads, [gives], answers)
                self.assertEqual(self.check(Goods(), many, roads, table, [gives]), least, (roads, gives))

    def test_one_place(self):
        for kind, asked, rows, paper, worth in (
                (Middle(), [], [[0, 0, 0]], [[0, 0]], 0), (Balance(), [[7]], [[0]], [[0]], 0),
                (Wells(), [[0], [0, 0], [0, 4]], [[0]], None, 1), (Wells(), [[0]], [[]], [[]], 0),
                (Wells(), [[], [0, 9]], None, [[0]], None), (Reach(), [[1], [0], [0, 0]], [[0]], [[]], 0),
                (Goods(), [[0]], [], None, 0)):
            self.assertEqual(self.check(kind, 1, [], [[0]], asked), worth)
            self.assertEqual(kind.answer(1, [], asked), rows)
            if paper is not None:
                self.assertEqual(kind.paper(1, [], asked), paper)

    def test_nothing_to_serve_or_to_send(self):
        for many, roads in all_trees():
            table = fars(many, roads)
            for sites in ([], [0], list(range(many))):
                self.assertEqual(self.check(Wells(), many, roads, table, [sites]), 0)
                self.assertEqual((Wells().answer(many, roads, [sites]), Wells().paper(many, roads, [sites])),
                                 ([[]], [[]]))
            self.assertEqual(self.check(Reach(), many, roads, table, [[1], [many - 1], []]), 0)
            self.assertEqual(Reach().paper(many, roads, [[1], [many - 1], []]), [[]])
            self.assertEqual(self.check(Goods(), many, roads, table, [[0] * many]), 0)
            self.assertEqual(Goods().answer(many, roads, [[0] * many]), [])
            self.assertEqual(self.check(Balance(), many, roads, table, [[0] * many]), 0)

    def test_houses_that_no_site_serves(self):
        for many, roads in all_trees():
            table = fars(many, roads)
            for asked in ([[], [0, 5], [0, 5]], [[0], [0, 0], [many - 1, table[0][many - 1] - 1]]):
                if many > 1 or asked[0] == []:
                    self.assertIsNone(self.check(Wells(), many, roads, table, asked))
                    self.assertIsNone(Wells().answer(many, roads, asked))

    def test_long_lists(self):
        chance = random.Random(53)
        for many, roads in all_trees()[-6:]:
            table = fars(many, roads)
            houses = [[chance.randrange(many), chance.choice(table[0]) + 1] for _ in range(399)]
            self.check(Wells(), many, roads, table, [list(range(many))] + houses)
            self.check(Reach(), many, roads, table, [[2], list(range(many)), [house[0] for house in houses]])

    def test_by_hand(self):
        self.assertEqual(Middle().worth(*FORK, []), 12)
        self.assertIn(Middle().answer(*FORK, []), ([[3, 1, 12]], [[1, 3, 2]]))
        self.assertIn(Middle().paper(*FORK, []), ([[0, 3]], [[3, 0]]))
        self.assertEqual(Balance().answer(*FORK, [[1, 2, 3, 4]]), [[1]])
        self.assertEqual(Balance().paper(*FORK, [[1, 2, 3, 4]]), [[1], [0, 1], [2, 3], [3, 4]])
        self.assertEqual(Balance().worth(*FORK, [[1, 2, 3, 4]]), 5 + 6 + 28)
        self.assertEqual(Wells().worth(*FORK, [[0, 1, 2, 3], [0, 5], [2, 2], [3, 6]]), 2)
        self.assertEqual(Reach().answer(*FORK, [[2], [0, 1, 3], [0, 2, 3]]), [[1, 3]])
        self.assertEqual(Reach().paper(*FORK, [[2], [0, 1, 3], [0, 2, 3]]), [[0, 1, 2]])
        self.assertEqual(Goods().worth(*FORK, [[3, 1, -2, -2]]), 33)


class LookedAt(Looks, unittest.TestCase):
    check = Looks.check_looked_at

    def test_rows_wrong_in_one_thing(self):
        self.check_many_spoilt(KINDS, all_trees()[:41] + all_trees()[41::4], 54)

    def test_other_rows_right_and_wrong(self):
        self.check_many_others(KINDS, all_trees()[:41] + all_trees()[41::2], 55)

    def test_all_short_lists_of_places_and_numbers(self):
        chance = random.Random(56)
        lists = [list(some) for size in range(4) for some in itertools.product(range(-1, 4), repeat=size)]
        for many, roads in small_trees()[1:9]:
            table = fars(many, roads)
            for kind in KINDS[2:4]:
                for _ in range(2):
                    asked = chance_asked(chance, kind.word(), many, roads, table)
                    rows = [[some] for some in lists]
                    self.check(kind, many, roads, table, asked, rows, rows)

    def test_middle(self):
        for rows, worth in (([[3, 1, 12]], 12), ([[1, 3, 2]], 12), ([[1, 1, 0]], 14), ([[1, 0, 0]], 14),
                            ([[0, 1, 10]], 14), ([[3, 3, 0]], 24), ([[1, 2, 4]], 18), ([[2, 1, 0]], 18)):
            self.assertIs(Middle().takes(*FORK, [], rows, worth), True)
            self.assertIs(Middle().takes(*FORK, [], rows, HUGE), True)
            self.assertIs(Middle().takes(*FORK, [], rows, worth - 1), False)
        for rows in ([], [[]], [[1, 1]], [[1, 1, 1]], [[0, 3, 0]], [[3, 1, 15]], [[3, 1, -1]], [[4, 4, 0]], [[1, 4, 0]],
                     [[-1, -1, 0]], [[1, 1, 0, 0]], [[1, 1, 0], []], [[1, 1, 0]] * 2, [[], [1, 1, 0]], [[HUGE] * 3]):
            self.assertIs(Middle().takes(*FORK, [], rows, HUGE), False)
        for rows, worth in (([[0, 3]], 12), ([[3, 2]], 9), ([[2, 2]], 0), ([[1, 0]], 5)):
            self.assertIs(Middle().shows(*FORK, [], rows, worth), True)
            self.assertIs(Middle().shows(*FORK, [], rows, worth + 1), False)
        for rows in ([], [[]], [[0]], [[0, 4]], [[-1, 0]], [[0, 3, 0]], [[0, 3], []], [[0, 3], [0, 3]], [[], [0, 3]]):
            self.assertIs(Middle().shows(*FORK, [], rows, -HUGE), False)

    def test_balance(self):
        asked = [[3, 1, 1, 1]]
        self.assertIs(Balance().shows(*FORK, asked, [[1], [0, 3], [2, 1], [3, 1]], 24), True)
        self.assertIs(Balance().shows(*FORK, asked, [[1], [0, 3], [2, 1], [3, 1]], 25), False)
        self.assertIs(Balance().shows(*FORK, asked, [[0], [1, 3]], 24), True)
        self.assertIs(Balance().shows(*FORK, asked, [[2], [1, 5]], 0), False)
        for rows in ([], [[1]], [[0, 3], [2, 1], [3, 1]], [[1], [3, 1], [2, 1], [0, 3]], [[1], [0, 3], [2, 1]],
                     [[1], [0, 3], [2, 1], [3, 1], []], [[1], [0, 3], [2, 1], [3, 0]], [[4]], [[]], [[1, 1]]):
            self.assertIs(Balance().shows(*FORK, asked, rows, -HUGE), False)
        for rows, worth in (([[1]], 24), ([[0]], 24), ([[2]], 32), ([[3]], 52)):
            self.assertIs(Balance().takes(*FORK, asked, rows, worth), True)
            self.assertIs(Balance().takes(*FORK, asked, rows, worth - 1), False)

    def test_wells(self):
        asked = [[3, 1, 0], [0, 5], [2, 2], [3, 6], [3, 6]]
        for rows, worth in (([[1, 3]], 2), ([[0, 1, 3]], 3)):
            self.assertIs(Wells().takes(*FORK, asked, rows, worth), True)
            self.assertIs(Wells().takes(*FORK, asked, rows, worth - 1), False)
            self.assertIs(Wells().takes(*FORK, asked, rows, None), False)
        for rows in ([[3, 1]], [[1, 1, 3]], [[1, 2, 3]], [[1]], [[3]], [[]], [], [[1, 3], []], [[1], [3]], [[1, 3, 4]]):
            self.assertIs(Wells().takes(*FORK, asked, rows, HUGE), False)
        for rows, worth in (([[0, 2]], 2), ([[1, 3]], 2), ([[0]], 1), ([[]], 0)):
            self.assertIs(Wells().shows(*FORK, asked, rows, worth), True)
            self.assertIs(Wells().shows(*FORK, asked, rows, worth + 1), False)
            self.assertIs(Wells().shows(*FORK, asked, rows, None), False)
        for rows in ([[2, 0]], [[2, 3]], [[0, 0]], [[0, 1]], [[4]], [[-1]], [], [[0, 2], []], [[0], [2]], [[HUGE]]):
            self.assertIs(Wells().shows(*FORK, asked, rows, -HUGE), False)

    def test_wells_where_there_are_none(self):
        asked = [[0, 2], [0, 3], [3, 8], [1, 2], [3, 9], [3, 0]]
        for number, missed in enumerate((False, True, False, False, True)):
            self.assertIs(Wells().shows(*FORK, asked, [[number]], None), missed)
            self.assertIs(Wells().shows(*FORK, asked, [[number]], 1), True)
        for rows in ([], [[]], [[1, 4]], [[1], []], [[1], [4]], [[5]], [[-1]], [[1, 1]]):
            self.assertIs(Wells().shows(*FORK, asked, rows, None), False)
        for rows in ([], [[]], [[0, 2]], [[0]], None):
            self.assertIs(Wells().takes(*FORK, asked, rows, None), False)
        self.assertIs(Wells().takes(*FORK, asked, [[0, 2]], HUGE), False)
        self.assertIs(Wells().takes(*FORK, asked, None, HUGE), False)

    def test_reach(self):
        asked = [[2], [0, 3, 1], [0, 2, 3, 0]]
        for rows, worth in (([[1, 3]], 5), ([[0, 1]], 7), ([[0, 3]], 7), ([[1]], 7), ([[3]], 12)):
            self.assertIs(Reach().takes(*FORK, asked, rows, worth), True)
            self.assertIs(Reach().takes(*FORK, asked, rows, worth - 1), False)
            self.assertIs(Reach().takes(*FORK, asked, rows, None), False)
        for rows in ([[0, 1, 3]], [[3, 1]], [[1, 1]], [[1, 2]], [[]], [], [[1, 3], []], [[1], [3]], [[4]], [[-1, 1]]):
            self.assertIs(Reach().takes(*FORK, asked, rows, HUGE), False)
        for rows, worth in (([[0, 1, 2]], 5), ([[1, 2, 3]], 5), ([[0, 1, 2]], 3), ([[1]], 1), ([[1]], 2), ([[]], 0),
                            ([[]], -1), ([[]], -HUGE)):
            self.assertIs(Reach().shows(*FORK, asked, rows, worth), True)
            self.assertIs(Reach().shows(*FORK, asked, rows, None), False)
        for rows, worth in (([[0, 1, 2]], 6), ([[0, 1, 2]], 0), ([[1]], 3), ([[1]], 0), ([[]], 1), ([[0]], 1),
                            ([[0]], -1), ([[0, 1, 2, 3]], 5), ([[0, 1]], 5), ([[0, 1, 3]], 5), ([[2, 1, 0]], 5),
                            ([[0, 1, 4]], 5), ([], 0), ([[], []], 0), ([], 5), ([[0, 1, 2], []], 5),
                            ([[1], []], 1), ([[-1]], 1)):
            self.assertIs(Reach().shows(*FORK, asked, rows, worth), False)

    def test_reach_without_homes(self):
        for rows in ([[]], [[0]], [[0, 3]]):
            self.assertIs(Reach().takes(*FORK, [[2], [0, 3, 1], []], rows, 0), True)
            self.assertIs(Reach().takes(*FORK, [[2], [0, 3, 1], []], rows, -1), False)
        self.assertIs(Reach().takes(*FORK, [[2], [0, 3, 1], []], [[0, 1, 3]], 0), False)
        self.assertIs(Reach().takes(*FORK, [[2], [0, 3, 1], [0]], [[]], HUGE), False)

    def test_goods(self):
        asked = [[3, 1, -2, -2]]
        for rows, worth in (([[0, 1, 3], [1, 2, 2], [1, 3, 2]], 33), ([[0, 2, 2], [0, 3, 1], [1, 3, 1]], 33),
                            ([[0, 3, 3], [1, 3, 1], [3, 2, 2]], 61), ([[0, 2, 2], [0, 3, 1], [1, 3, 2], [2, 1, 1],
                                                                       [1, 2, 1], [3, 1, 1]], 51)):
            self.assertIs(Goods().takes(*FORK, asked, rows, worth), True)
            self.assertIs(Goods().takes(*FORK, asked, rows, worth - 1), False)
            self.assertIs(Goods().takes(*FORK, asked, rows, None), False)
        for rows in ([], [[]], [[0, 1, 3], [1, 2, 2], [1, 3, 1]], [[0, 1, 3], [1, 2, 2], [1, 3, 2], []]):
            self.assertIs(Goods().takes(*FORK, asked, rows, HUGE), False)
        for rows, worth in (([[0, 5, 7, 12]], 33), ([[HUGE, HUGE + 5, HUGE + 7, HUGE + 12]], 33), ([[0, 0, 0, 0]], 0),
                            ([[0, -5, -7, -12]], -33), ([[0, 5, 7, 11]], 31)):
            self.assertIs(Goods().shows(*FORK, asked, rows, worth), True)
            self.assertIs(Goods().shows(*FORK, asked, rows, worth + 1), False)
            self.assertIs(Goods().shows(*FORK, asked, rows, None), False)
        for rows in ([], [[]], [[0, 5, 7, 13]], [[0, 5, 7]], [[0, 5, 7, 12, 12]], [[0, 5, 7, 12], []], [[0, 6, 7, 12]],
                     [[0, 5, 7, 12]] * 2):
            self.assertIs(Goods().shows(*FORK, asked, rows, -HUGE), False)

    def test_nothing_to_send(self):
        for many, roads in all_trees():
            self.assertIs(Goods().takes(many, roads, [[0] * many], [], 0), True)
            self.assertIs(Goods().takes(many, roads, [[0] * many], [], -1), False)
            self.assertIs(Goods().takes(many, roads, [[0] * many], [[]], 0), False)
            self.assertIs(Goods().shows(many, roads, [[0] * many], [[7] * many], 0), True)
            self.assertIs(Goods().shows(many, roads, [[0] * many], [[7] * many], 1), False)


if __name__ == "__main__":
    unittest.main()
