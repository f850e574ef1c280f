import itertools
import random
import unittest

from askings import Looks, chance_asked
from samples import (FORK, GREAT, HUGE, all_trees, between, chance_lump, fars, lie_apart, lumps, small_trees,
                     subsets)
from treewells.gatherings import Colours, Round, Spots, Sweeping, Sweeps, Walks, Worths, Yards
from treewells.questions import Question

KINDS = (Spots(), Colours(), Worths(), Walks(), Sweeps(), Round())
ROW = (12, [[place, place + 1, place + 1] for place in range(11)])
STAR = (12, [[11, place, GREAT] for place in range(11)])
ONE = (1, [])

NO_YARDS = ([], [0, 0], [0, 3], [4], [-1], [HUGE], [0, 1, 2, 3, 0], [0, True], [3, 2])


class Classes(unittest.TestCase):
    def test_which_stands_straight_under_which(self):
        for kind in (Yards, Sweeping, Round):
            self.assertEqual(kind.__bases__, (Question,))
        for kind in (Spots, Colours, Worths):
            self.assertEqual(kind.__bases__, (Yards,))
        for kind in (Walks, Sweeps):
            self.assertEqual(kind.__bases__, (Sweeping,))

    def test_words(self):
        self.assertEqual([kind.word() for kind in KINDS], ["spots", "colours", "worths", "walks", "sweeps", "round"])

    def test_the_bases_are_asked_nothing(self):
        for many, roads in all_trees()[:50]:
            for kind in (Yards(), Sweeping()):
                for asked in ([], [[]], [[0]], [[0]] * 2, [[0] * many], [[1], [0]]):
                    self.assertIs(kind.fits(many, roads, asked), False)


class Fits(Looks, unittest.TestCase):
    check = Looks.check_fits

    def test_spots_and_colours(self):
        for kind in (Spots(), Colours()):
            wrong = [ahead + [yard] + behind for yard in NO_YARDS
                     for ahead, behind in (([], []), ([[0]], []), ([], [[0, 1]]), ([[0]] * 399, []))]
            self.check(kind, FORK, [[], [[0]], [[1, 3], [1, 3]], [[3, 1, 2, 0], [2]], [[3, 1]] * 400], wrong)
            self.check(kind, ONE, [[], [[0]], [[0], [0]]], [[[]], [[1]], [[0, 0]], [[0], []]])
            self.check(kind, ROW, [[list(range(12))[::-1]], [[4, 3, 5]]], [[[3, 5]], [[11, 12]], [[1] * 400]])

    def test_worths(self):
        self.check(Worths(), FORK,
                   [[[]], [[0], [0]], [[GREAT], [3, 1]], [[1, 2], [1, 0], [1, 0]], [[7] * 399] + [[1]] * 399],
                   [[], [[0]], [[], [0]], [[1, 2], [1, 0]], [[1], [1, 0], [1]], [[-1], [0]], [[1, -GREAT], [0], [1]],
                    [[True], [0]], [[0], [0, 1], []], [[0] * 400], [[1], [], [0]], [[0], [0], [0]]])
        for yard in NO_YARDS:
            self.check(Worths(), FORK, [], [[[1], yard], [[1, 1], [0], yard], [[1, 1], yard, [0]], [[], yard]])
        self.check(Worths(), ONE, [[[]], [[4], [0]], [[0, 4], [0], [0]]], [[], [[0]], [[4], [1]], [[4], []]])
        self.check(Worths(), ROW, [[[1], list(range(12))]], [[[1], list(range(13))], [[1, 1], list(range(12))]])

    def test_walks_and_sweeps(self):
        for kind in (Walks(), Sweeps()):
            for tree in (ONE, FORK, ROW, STAR):
                self.check(kind, tree, [[]], [[[]], [[0]], [[0, 1]], [[], []], [[0]] * 400])

    def test_round(self):
        self.check(Round(), FORK, [[[]], [[0]], [[3, 3, 0]], [[0, 1, 2, 3] * 100]],
                   [[], [[0], []], [[], []], [[0], [1]], [[4]], [[-1]], [[0, 1, 4]], [[HUGE]], [[-HUGE, 0]], [[True]],
                    [[0] * 399 + [4]]])
        self.check(Round(), ONE, [[[]], [[0]], [[0, 0]]], [[], [[1]], [[0, -1]], [[0], [0]]])
        self.check(Round(), ROW, [[[11, 0]]], [[[12]], [[11, 12]]])


class Told(Looks, unittest.TestCase):
    check = Looks.check_told

    def test_all_kinds_at_all_trees(self):
        self.check_many_told(KINDS, all_trees(), 3, 60)

    def test_no_places_are_better_spots(self):
        chance = random.Random(61)
        for many, roads in small_trees()[::2]:
            table = fars(many, roads)
            answers = [[some] for some in subsets(range(many))]
            for _ in range(3):
                asked = chance_asked(chance, "spots", many, roads, table)
                least = self.least_taken("spots", table, roads, asked, answers)
                self.assertEqual(self.check(Spots(), many, roads, table, asked), least, (many, roads, asked))

    def test_no_numbers_are_better_colours(self):
        chance = random.Random(62)
        for many, roads in small_trees()[::3]:
            table = fars(many, roads)
            for _ in range(3):
                asked = [chance_lump(chance, many, roads) for _ in range(chance.randint(0, 4))]
                answers = [[list(some)] for some in itertools.product(range(len(asked)), repeat=len(asked))]
                least = self.least_taken("colours", table, roads, asked, answers)
                self.assertEqual(self.check(Colours(), many, roads, table, asked), least, (many, roads, asked))

    def test_no_yards_are_worth_more(self):
        chance = random.Random(63)
        for many, roads in all_trees():
            table = fars(many, roads)
            for _ in range(3):
                asked = chance_asked(chance, "worths", many, roads, table)
                greatest = max(sum(asked[0][number] for number in some) for some in subsets(range(len(asked[0])))
                               if lie_apart(asked[1:], some))
                self.assertEqual(self.check(Worths(), many, roads, table, asked), greatest, (many, roads, asked))

    def test_no_fewer_walks_or_sweeps_go_over_all_roads(self):
        for many, roads in small_trees()[:41:2]:
            table = fars(many, roads)
            ways = [between(table, a, b) for a, b in itertools.combinations(range(many), 2)]
            for kind in (Walks(), Sweeps()):
                answers = [rows for rows in subsets(ways) if len(rows) < many]
                least = self.least_taken(kind.word(), table, roads, [], answers)
                self.assertEqual(self.check(kind, many, roads, table, []), least, (many, roads))

    def test_no_round_is_shorter(self):
        for many, roads in small_trees()[::2]:
            table = fars(many, roads)
            for some in subsets(range(many))[1:]:
                orders = itertools.permutations(some)
                least = min(sum(table[a][b] for a, b in zip(order, order[1:] + order[:1])) for order in orders)
                self.assertEqual(self.check(Round(), many, roads, table, [some[::-1] + some]), least)

    def test_one_place(self):
        for kind, asked, rows, paper, worth in (
                (Spots(), [], [[]], [[]], 0), (Spots(), [[0], [0]], [[0]], None, 1), (Colours(), [], [[]], [[0]], 0),
                (Colours(), [[0]], [[0]], [[0]], 1), (Worths(), [[]], [[]], [[0]], 0),
                (Worths(), [[3, 5], [0], [0]], [[1]], [[5]], 5), (Walks(), [], [], [[]], 0),
                (Sweeps(), [], [], [[]], 0), (Round(), [[]], [[]], [], 0), (Round(), [[0, 0]], [[0]], [], 0)):
            self.assertEqual(self.check(kind, 1, [], [[0]], asked), worth)
            self.assertEqual(kind.answer(1, [], asked), rows)
            if paper is not None:
                self.assertEqual(kind.paper(1, [], asked), paper)

    def test_no_yards_and_no_places(self):
        for many, roads in all_trees():
            table = fars(many, roads)
            self.assertEqual(self.check(Spots(), many, roads, table, []), 0)
            self.assertEqual((Spots().answer(many, roads, []), Spots().paper(many, roads, [])), ([[]], [[]]))
            self.assertEqual(self.check(Colours(), many, roads, table, []), 0)
            self.assertEqual(Colours().answer(many, roads, []), [[]])
            self.assertEqual(self.check(Worths(), many, roads, table, [[]]), 0)
            self.assertEqual((Worths().answer(many, roads, [[]]), Worths().paper(many, roads, [[]])),
                             ([[]], [[0] * many]))
            self.assertEqual(self.check(Round(), many, roads, table, [[]]), 0)
            self.assertEqual((Round().answer(many, roads, [[]]), Round().paper(many, roads, [[]])), ([[]], []))

    def test_long_lists(self):
        chance = random.Random(64)
        for many, roads in all_trees()[-6:]:
            table = fars(many, roads)
            yards = [chance_lump(chance, many, roads) for _ in range(399)]
            self.check(Spots(), many, roads, table, yards)
            self.check(Colours(), many, roads, table, yards)
            self.check(Worths(), many, roads, table, [[chance.randint(0, GREAT) for _ in yards]] + yards)
            self.check(Round(), many, roads, table, [[chance.randrange(many) for _ in range(400)]])

    def test_walks_and_sweeps_of_rows_and_stars(self):
        for many in range(2, 13):
            row = (many, [[place + 1, place, GREAT] for place in range(many - 1)])
            star = (many, [[0, place + 1, 1] for place in range(many - 1)])
            for kind in (Walks(), Sweeps()):
                self.assertEqual(self.check(kind, *row, fars(*row), []), 1)
                self.assertEqual(kind.paper(*row, []), [[0, many - 1]])
                self.assertEqual(self.check(kind, *star, fars(*star), []), many // 2)

    def test_by_hand(self):
        yards = [[3, 1], [0], [1, 0], [2, 1]]
        self.assertEqual(Spots().answer(*FORK, yards), [[0, 1]])
        self.assertIn(Spots().paper(*FORK, yards), ([[0, 1]], [[1, 3]]))
        self.assertEqual(Spots().worth(*FORK, yards), 2)
        self.assertEqual(Colours().worth(*FORK, yards), 3)
        self.assertEqual(Colours().paper(*FORK, yards), [[1]])
        self.assertEqual(Worths().answer(*FORK, [[2, 9, 5, 1]] + yards), [[0, 1]])
        self.assertEqual(Worths().worth(*FORK, [[2, 9, 5, 1]] + yards), 11)
        self.assertEqual(Walks().paper(*FORK, []), [[0, 1, 2, 3]])
        self.assertEqual(Sweeps().paper(*FORK, []), [[0, 2, 3]])
        self.assertEqual((Walks().worth(*FORK, []), Sweeps().worth(*FORK, [])), (2, 2))
        self.assertEqual(Round().worth(*FORK, [[3, 2, 2]]), 18)
        self.assertEqual(Round().paper(*FORK, [[3, 2, 2]]), [[2, 1], [1, 3]])


class LookedAt(Looks, unittest.TestCase):
    check = Looks.check_looked_at

    def all_taken(self, kind, tree, asked, rights, wrongs):
        """Each right answer is taken with its size and not with one less; a wrong one never."""
        for rows, worth in rights:
            self.assertIs(kind.takes(*tree, asked, rows, worth), True, rows)
            self.assertIs(kind.takes(*tree, asked, rows, HUGE), True, rows)
            self.assertIs(kind.takes(*tree, asked, rows, worth - 1), False, rows)
            self.assertIs(kind.takes(*tree, asked, rows, None), False, rows)
        for rows in wrongs:
            self.assertIs(kind.takes(*tree, asked, rows, HUGE), False, rows)
            self.assertIs(kind.takes(*tree, asked, rows, None), False, rows)

    def all_shown(self, kind, tree, asked, rights, wrongs):
        for rows, worth in rights:
            self.assertIs(kind.shows(*tree, asked, rows, worth), True, rows)
            self.assertIs(kind.shows(*tree, asked, rows, -HUGE), True, rows)
            self.assertIs(kind.shows(*tree, asked, rows, worth + 1), False, rows)
            self.assertIs(kind.shows(*tree, asked, rows, None), False, rows)
        for rows in wrongs:
            self.assertIs(kind.shows(*tree, asked, rows, -HUGE), False, rows)
            self.assertIs(kind.shows(*tree, asked, rows, None), False, rows)

    def test_rows_wrong_in_one_thing(self):
        self.check_many_spoilt(KINDS, all_trees()[:41] + all_trees()[41::4], 65)

    def test_other_rows_right_and_wrong(self):
        self.check_many_others(KINDS, all_trees()[:41] + all_trees()[41::2], 66)

    def test_all_short_lists_of_places_and_numbers(self):
        chance = random.Random(67)
        lists = [[list(some)] for size in range(4) for some in itertools.product(range(-1, 4), repeat=size)]
        for many, roads in small_trees()[1:9]:
            table = fars(many, roads)
            for kind in KINDS:
                for _ in range(2):
                    asked = chance_asked(chance, kind.word(), many, roads, table)
                    self.check(kind, many, roads, table, asked, lists, lists)

    def test_all_pairs_of_short_lists(self):
        lists = [list(some) for size in (1, 2, 3) for some in itertools.product(range(3), repeat=size)]
        pairs = [[one, two] for one in lists for two in lists]
        tree = (3, [[1, 0, 2], [2, 1, 3]])
        for kind, asked in ((Walks(), []), (Sweeps(), []), (Round(), [[0, 2]]), (Round(), [[1, 2]])):
            self.check(kind, *tree, fars(*tree), asked, pairs, pairs)

    def test_answers_turned_about(self):
        """Walks and rounds gone back, colours counted from the other side: they are right too."""
        chance = random.Random(68)
        for many, roads in all_trees():
            table = fars(many, roads)
            for kind in (Walks(), Sweeps()):
                rows = [row[::-1] for row in kind.answer(many, roads, [])]
                self.assertIs(kind.takes(many, roads, [], rows[::-1], len(rows)), True)
                self.assertIs(kind.takes(many, roads, [], rows[::-1], len(rows) - 1), False)
            asked = chance_asked(chance, "round", many, roads, table)
            worth, rows = Round().worth(many, roads, asked), Round().answer(many, roads, asked)
            self.assertIs(Round().takes(many, roads, asked, [rows[0][::-1]], worth), True)
            # Begun at the second place; a round of one place has none.
            self.assertIs(Round().takes(many, roads, asked, [rows[0][1:] + rows[0][1:2] or rows[0]], worth), True)
            paper = [row[::-1] for row in Round().paper(many, roads, asked)]
            self.assertIs(Round().shows(many, roads, asked, paper[::-1], worth), True)
            self.assertIs(Round().shows(many, roads, asked, paper[::-1], worth + 1), False)
            yards = chance_asked(chance, "colours", many, roads, table)
            count, numbers = Colours().worth(many, roads, yards), Colours().answer(many, roads, yards)[0]
            turned, risen = [[count - 1 - number for number in numbers]], [[number + 1 for number in numbers]]
            self.assertIs(Colours().takes(many, roads, yards, turned, count), True)
            self.assertIs(Colours().takes(many, roads, yards, risen, count), yards == [])

    def test_spots(self):
        asked = [[3, 1], [0], [1, 0], [2, 1]]
        self.all_taken(Spots(), FORK, asked, [([[0, 1]], 2), ([[0, 1, 3]], 3), ([[0, 2, 3]], 3), ([[0, 1, 2, 3]], 4)],
                       [[], [[]], [[1, 0]], [[0]], [[1]], [[0, 3]], [[0, 1, 1]], [[0, 0, 1]], [[0, 1, 4]], [[-1, 0, 1]],
                        [[0, 1], []], [[0], [1]], [[0, 1], [0, 1]], [[], [0, 1]]])
        self.all_shown(Spots(), FORK, asked, [([[0, 1]], 2), ([[1, 3]], 2), ([[2]], 1), ([[]], 0)],
                       [[], [[1, 0]], [[0, 2]], [[0, 3]], [[1, 2]], [[0, 0]], [[4]], [[-1]], [[0, 1], []], [[0], [1]],
                        [[0, 1, 4]], [[HUGE]]])
        self.all_taken(Spots(), FORK, [], [([[]], 0), ([[3]], 1)], [[], [[4]], [[], []]])
        self.all_shown(Spots(), FORK, [], [([[]], 0)], [[], [[0]], [[-1]], [[], []]])

    def test_colours(self):
        asked = [[3, 1], [0], [1, 0], [2, 1]]
        self.all_taken(Colours(), FORK, asked,
                       [([[0, 1, 2, 1]], 3), ([[2, 0, 1, 0]], 3), ([[5, 0, 1, 2]], 6), ([[GREAT, 0, 1, 2]], GREAT + 1),
                        ([[1, 2, 3, 4]], 5)],
                       [[], [[]], [[0, 1, 1, 2]], [[0, 1, 2, 0]], [[0, 1, 2]], [[0, 1, 2, 1, 0]], [[-1, 1, 2, 1]],
                        [[0, 1, 2, 1], []], [[0, 1, 2, 1]] * 2, [[0], [1], [2], [1]], [[0, 0, 0, 0]],
                        [[2, False, True, 0]]])
        self.all_shown(Colours(), FORK, asked, [([[1]], 3), ([[0]], 2), ([[2]], 1), ([[3]], 1)],
                       [[], [[]], [[4]], [[-1]], [[1, 1]], [[1], []], [[1], [1]], [[HUGE]]])
        self.all_taken(Colours(), FORK, [], [([[]], 0)], [[], [[0]], [[], []]])
        self.all_shown(Colours(), FORK, [], [([[place]], 0) for place in range(4)], [[], [[]], [[4]]])

    def test_worths(self):
        asked = [[2, 9, 5, 1], [3, 1], [0], [1, 0], [2, 1]]
        for rows, worth in (([[0, 1]], 11), ([[1, 3]], 10), ([[1]], 9), ([[2]], 5), ([[]], 0)):
            self.assertIs(Worths().takes(*FORK, asked, rows, worth), True)
            self.assertIs(Worths().takes(*FORK, asked, rows, -HUGE), True)
            self.assertIs(Worths().takes(*FORK, asked, rows, worth + 1), False)
            self.assertIs(Worths().takes(*FORK, asked, rows, None), False)
        for rows in ([], [[1, 0]], [[0, 2]], [[1, 2]], [[1, 1]], [[4]], [[-1]], [[0, 1], []], [[0], [1]], [[HUGE]]):
            self.assertIs(Worths().takes(*FORK, asked, rows, -HUGE), False)
        for rows, worth in (([[9, 2, 0, 0]], 11), ([[9, 1, 0, 1]], 11), ([[9, 2, 1, 7]], 19),
                            ([[GREAT] * 4], 4 * GREAT)):
            self.assertIs(Worths().shows(*FORK, asked, rows, worth), True)
            self.assertIs(Worths().shows(*FORK, asked, rows, HUGE), True)
            self.assertIs(Worths().shows(*FORK, asked, rows, worth - 1), False)
            self.assertIs(Worths().shows(*FORK, asked, rows, None), False)
        for rows in ([], [[]], [[9, 0, 1, 1]], [[8, 2, 0, 0]], [[9, 2, 0]], [[9, 2, 0, 0, 0]], [[9, 3, -1, 0]],
                     [[9, 2, 0, 0], []], [[9, 2, 0, 0]] * 2, [[9], [2], [0], [0]], [[9, 2, False, 0]]):
            self.assertIs(Worths().shows(*FORK, asked, rows, HUGE), False)

    def test_worths_without_yards(self):
        self.assertIs(Worths().takes(*FORK, [[]], [[]], 0), True)
        self.assertIs(Worths().takes(*FORK, [[]], [[]], 1), False)
        self.assertIs(Worths().takes(*FORK, [[]], [], 0), False)
        self.assertIs(Worths().shows(*FORK, [[]], [[0, 0, 0, 0]], 0), True)
        self.assertIs(Worths().shows(*FORK, [[]], [[0, 0, 0, 0]], -1), False)
        self.assertIs(Worths().shows(*FORK, [[]], [[0, 1, 0, 0]], 0), False)
        self.assertIs(Worths().shows(*FORK, [[]], [[]], 0), False)

    def test_walks(self):
        self.all_taken(Walks(), FORK, [],
                       [([[0, 1, 2], [1, 3]], 2), ([[3, 1], [2, 1, 0]], 2), ([[3, 1, 2], [1, 0]], 2),
                        ([[0, 1], [1, 2], [3, 1]], 3)],
                       [[], [[]], [[0, 1, 2]], [[0, 1, 2], [3]], [[0, 1, 2], [1, 3], [0]], [[0, 1, 2], [1, 3], []],
                        [[0, 1, 2], [2, 1, 3]], [[0, 1, 2, 1, 3]], [[0, 2], [1, 3]], [[0, 1, 2], [1, 3], [3, 1]],
                        [[0, 1, 2], [1, 4]], [[0, 1, 2], [-1, 3]], [[0, 1, 0], [2, 1, 3]], [[0, 1, 2], [3, 3]]])
        self.all_shown(Walks(), FORK, [],
                       [([[0, 1, 2, 3]], 2), ([[1, 2, 3]], 2), ([[0, 3]], 1), ([[2]], 1), ([[]], 0)],
                       [[], [[3, 2, 1, 0]], [[0, 0, 1]], [[0, 1, 4]], [[-1, 0]], [[0], [1]], [[0, 1], []], [[0, 0]]])
        self.all_taken(Walks(), ONE, [], [([], 0)], [[[]], [[0]], [[0, 0]], [[0, 1]]])
        self.all_shown(Walks(), ONE, [], [([[]], 0)], [[], [[0]], [[], []]])

    def test_sweeps(self):
        self.all_taken(Sweeps(), FORK, [],
                       [([[0, 1, 2], [1, 3]], 2), ([[3, 1, 0], [2, 1, 0]], 2), ([[0, 1, 2], [1, 3], [3, 1]], 3),
                        ([[0, 1], [1, 2], [3, 1]], 3), ([[0, 1, 2], [0, 1, 2], [2, 1, 3]], 3)],
                       [[], [[]], [[0, 1, 2]], [[0, 1, 2], [3]], [[0, 1, 2], [1, 3], [0]], [[0, 1, 2], [1, 3], []],
                        [[0, 1, 2], [0, 1]], [[0, 1, 2, 1, 3]], [[0, 2], [1, 3]], [[0, 1, 2], [1, 3], [4, 1]],
                        [[0, 1, 2], [-1, 3]], [[0, 1, 0], [2, 1, 3]], [[0, 1, 2], [2, 3]]])
        self.all_shown(Sweeps(), FORK, [], [([[0, 2, 3]], 2), ([[0, 3]], 1), ([[2]], 1), ([[]], 0)],
                       [[], [[3, 2, 0]], [[0, 1, 2, 3]], [[1]], [[0, 0]], [[0, 4]], [[-1]], [[0], [2]], [[0, 2], []]])
        self.all_taken(Sweeps(), ONE, [], [([], 0)], [[[]], [[0]], [[0, 0]], [[0, 1]]])
        self.all_shown(Sweeps(), ONE, [], [([[]], 0)], [[], [[0]], [[], []]])

    def test_odd_places_that_are_no_leaves(self):
        many, roads = 6, [[0, 1, 1], [1, 2, 1], [2, 3, 1], [1, 4, 1], [2, 5, 1]]
        self.all_shown(Walks(), (many, roads), [], [([[0, 1, 2, 3, 4, 5]], 3), ([[1, 2]], 1)], [])
        self.all_shown(Sweeps(), (many, roads), [], [([[0, 3, 4, 5]], 2)], [[[0, 1, 3]], [[1, 2]]])

    def test_round(self):
        self.all_taken(Round(), FORK, [[3, 2, 2]],
                       [([[3, 1, 2, 1, 3]], 18), ([[2, 1, 3, 1, 2]], 18), ([[1, 2, 1, 3, 1]], 18),
                        ([[0, 1, 2, 1, 3, 1, 0]], 28), ([[2, 1, 2, 1, 3, 1, 2]], 22)],
                       [[], [[]], [[3]], [[3, 1, 2]], [[3, 1, 2, 1]], [[3, 2, 3]], [[3, 1, 0, 1, 3]],
                        [[3, 1, 2, 1, 3, 3]], [[3, 1, 2, 2, 1, 3]], [[3, 1, 2, 1, 3], []], [[3, 1, 2], [2, 1, 3]],
                        [[3, 1, 4, 1, 3]], [[3, 1, 2, -3, 3]], [[3, 1, 2, 1, 3]] * 2])
        self.all_shown(Round(), FORK, [[3, 2, 2]],
                       [([[2, 1], [1, 3]], 18), ([[1, 2], [3, 1]], 18), ([[3, 1], [2, 1]], 18), ([[3, 1]], 14),
                        ([[1, 2]], 4), ([], 0)],
                       [[[]], [[0, 1]], [[2, 1], [1, 3], [0, 1]], [[2, 1], [1, 2]], [[2, 1], [2, 1]], [[2, 3]],
                        [[3, 3]], [[2, 1, 2]], [[2]], [[2, 1], []], [[4, 1]], [[-1, 1]], [[2, 1, 1, 3]], [[2, HUGE]]])

    def test_round_by_one_place_and_by_none(self):
        for asked in ([[2]], [[2, 2]]):
            self.all_taken(Round(), FORK, asked, [([[2]], 0), ([[2, 1, 2]], 4), ([[1, 2, 1]], 4)],
                           [[], [[]], [[1]], [[2, 2]], [[2], [2]]])
            self.all_shown(Round(), FORK, asked, [([], 0)], [[[]], [[2, 1]], [[2, 2]]])
        self.all_taken(Round(), FORK, [[]], [([[]], 0), ([[3]], 0), ([[0, 1, 0]], 10)],
                       [[], [[0, 1]], [[4]], [[0, 0]], [[], []], [[-1]]])
        self.all_shown(Round(), FORK, [[]], [([], 0)], [[[]], [[0, 1]]])

    def test_half_of_an_odd_worth(self):
        for worth in (-1, 0, 1, 13, 14):
            self.assertIs(Round().shows(*FORK, [[1, 3]], [[1, 3]], worth), True)
        self.assertIs(Round().shows(*FORK, [[1, 3]], [[1, 3]], 15), False)
        self.assertIs(Round().shows(*FORK, [[1, 3]], [], 1), False)

    def test_all_lumps_and_all_answers_at_a_small_tree(self):
        tree = (3, [[1, 0, 2], [2, 1, 3]])
        table, yards = fars(*tree), lumps(*tree)
        lists = [[list(some)] for size in range(4) for some in itertools.product(range(-1, 3), repeat=size)]
        for asked in itertools.product(yards, repeat=2):
            asked = [list(yard) for yard in asked]
            for kind in (Spots(), Colours()):
                self.check(kind, *tree, table, asked, lists, lists)
            self.check(Worths(), *tree, table, [[1, 2]] + asked, lists, lists)


if __name__ == "__main__":
    unittest.main()
