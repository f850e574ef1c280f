"""What is promised over the whole program: one question lies in another, and worths as a tree is told otherwise."""

import random
import unittest

from askings import chance_asked
from samples import (GREAT, HUGE, all_trees, between, chance_houses, chance_lump, chance_sites, fars, great_trees,
                     small_trees)
from treewells.desk import Desk
from treewells.kinds import kind_of, kinds
from treewells.middles import spot_far
from treewells.texts import read_tree, shown_rows, shown_tree
from treewells.trees import beyond, far, hull, is_lump, is_tree, leaves, odd_places, way

TREES = small_trees()[::3] + great_trees()
PLACED = ("wells", "reach", "spots", "colours", "worths", "round")


def worth(word, tree, asked):
    return kind_of(word).worth(*tree, asked)


def longer(tree, number, more):
    many, roads = tree
    return many, [[a, b, length + more * (place == number)] for place, (a, b, length) in enumerate(roads)]


def numbered_anew(chance, tree):
    """The same tree with other numbers, roads told either way and in another order; and each place's new number."""
    many, roads = tree
    names = chance.sample(range(many), many)
    told = [chance.sample([names[a], names[b]], 2) + [length] for a, b, length in roads]
    return (many, chance.sample(told, len(told))), names


def asked_anew(word, asked, names):
    """The same question of the tree with these new numbers."""
    if word in ("balance", "goods"):
        return [[asked[0][names.index(place)] for place in range(len(names))]]
    if word == "wells":
        return [[names[site] for site in asked[0]]] + [[names[place], reach] for place, reach in asked[1:]]
    kept = {"reach": 1, "worths": 1}.get(word, 0)
    return asked[:kept] + [[names[place] for place in row] for row in asked[kept:]]


def asked_with_a_leaf(word, asked):
    """The same question of the tree with a leaf more, which wants and gives nothing."""
    return [asked[0] + [0]] if word in ("balance", "goods") else asked


class OneInAnother(unittest.TestCase):
    def test_wells_of_reach_nought_are_spots_of_one_place_each(self):
        chance = random.Random(100)
        for tree in TREES:
            for size in (0, 1, 4, 15):
                places = [chance.randrange(tree[0]) for _ in range(size)]
                asked = [chance.sample(range(tree[0]), tree[0])] + [[place, 0] for place in places]
                self.assertEqual(worth("wells", tree, asked), len(set(places)))
                self.assertEqual(worth("spots", tree, [[place] for place in places]), len(set(places)))

    def test_wells_are_spots_of_what_lies_no_farther_than_the_reach(self):
        chance = random.Random(101)
        for tree in TREES:
            table = fars(*tree)
            for _ in range(3):
                houses = chance_houses(chance, table, 10)
                yards = [[place for place in range(tree[0]) if table[home][place] <= reach] for home, reach in houses]
                dug = worth("wells", tree, [list(range(tree[0]))] + houses)
                self.assertEqual(dug, worth("spots", tree, yards))
                # So the answer and the paper of one question are right for the other one too.
                rows, paper = kind_of("spots").answer(*tree, yards), kind_of("spots").paper(*tree, yards)
                asked = [list(range(tree[0]))] + houses
                self.assertIs(kind_of("wells").takes(*tree, asked, rows, dug), True)
                self.assertIs(kind_of("wells").shows(*tree, asked, paper, dug), True)

    def test_yards_of_the_worth_one(self):
        chance = random.Random(102)
        for tree in TREES:
            for size in (0, 1, 3, 12):
                yards = [chance_lump(chance, *tree) for _ in range(size)]
                count = worth("spots", tree, yards)
                self.assertEqual(worth("worths", tree, [[1] * size] + yards), count)
                paper = kind_of("spots").paper(*tree, yards)
                self.assertIs(kind_of("worths").takes(*tree, [[1] * size] + yards, paper, count), True)

    def test_the_least_reach_is_the_least_for_which_no_more_wells_are_needed(self):
        chance = random.Random(103)
        for tree in TREES:
            for count in (1, 2, 3):
                sites = chance_sites(chance, tree[0], 1)
                homes = [chance.randrange(tree[0]) for _ in range(chance.randint(0, 9))]
                reach = worth("reach", tree, [[count], sites, homes])
                dug = worth("wells", tree, [sites] + [[home, reach] for home in homes])
                self.assertLessEqual(dug, count)
                if reach > 0:
                    dug = worth("wells", tree, [sites] + [[home, reach - 1] for home in homes])
                    self.assertTrue(dug is None or dug > count, (tree, sites, homes, count))

    def test_halves_of_odd_places_and_of_leaves(self):
        for tree in all_trees():
            self.assertEqual(2 * worth("walks", tree, []), len(odd_places(*tree)))
            self.assertEqual(worth("sweeps", tree, []), (len(leaves(*tree)) + 1) // 2)

    def test_a_round_goes_twice_over_what_parts(self):
        chance = random.Random(104)
        for many, roads in all_trees():
            some = [chance.randrange(many) for _ in range(chance.randint(0, 6))]
            parting = [length for a, b, length in roads
                       if {place in beyond(many, roads, a, b) for place in some} == {True, False}]
            self.assertEqual(worth("round", (many, roads), [some]), 2 * sum(parting))

    def test_a_round_by_two_places_goes_there_and_back(self):
        chance = random.Random(105)
        for many, roads in all_trees():
            a, b = chance.randrange(many), chance.randrange(many)
            self.assertEqual(worth("round", (many, roads), [[a, b]]), 2 * far(many, roads, a, b))

    def test_goods_from_one_place_to_all_others_cost_their_sum(self):
        for many, roads in all_trees():
            for place in (0, many - 1):
                gives = [many * (place == other) - 1 for other in range(many)]
                cost = worth("goods", (many, roads), [gives])
                self.assertEqual(cost, sum(fars(many, roads)[place]))
                self.assertGreaterEqual(cost, worth("balance", (many, roads), [[1] * many]))

    def test_the_middle_is_the_least_reach_of_a_well_at_any_spot(self):
        for tree in TREES:
            places = list(range(tree[0]))
            reach, across = worth("reach", tree, [[1], places, places]), worth("middle", tree, [])
            self.assertTrue(reach <= across <= 2 * reach)

    def test_colours_of_yards_that_all_have_one_place(self):
        chance = random.Random(106)
        for many, roads in TREES:
            yards = [hull(many, roads, [0, chance.randrange(many)]) for _ in range(7)]
            self.assertEqual(worth("colours", (many, roads), yards), 7)
            self.assertEqual(worth("spots", (many, roads), yards), 1)


class ToldOtherwise(unittest.TestCase):
    def test_a_tree_numbered_anew(self):
        chance = random.Random(110)
        for tree in TREES:
            table = fars(*tree)
            other, names = numbered_anew(chance, tree)
            for kind in kinds():
                asked = chance_asked(chance, kind.word(), *tree, table)
                told = asked_anew(kind.word(), asked, names)
                self.assertIs(kind.fits(*other, told), True)
                self.assertEqual(kind.worth(*other, told), kind.worth(*tree, asked), (kind.word(), tree, asked))

    def test_lists_in_another_order(self):
        chance = random.Random(111)
        for tree in TREES:
            table = fars(*tree)
            for word in PLACED:
                asked = chance_asked(chance, word, *tree, table)
                if word == "worths":
                    order = chance.sample(range(len(asked) - 1), len(asked) - 1)
                    told = [[asked[0][number] for number in order]] + [asked[number + 1] for number in order]
                elif word in ("spots", "colours"):
                    told = [chance.sample(yard, len(yard)) for yard in chance.sample(asked, len(asked))]
                elif word == "wells":
                    told = [asked[0][::-1]] + chance.sample(asked[1:], len(asked) - 1)
                else:
                    told = [chance.sample(row, len(row)) for row in asked]
                self.assertEqual(worth(word, tree, told), worth(word, tree, asked), (word, tree, asked))

    def test_a_leaf_more(self):
        chance = random.Random(112)
        for many, roads in TREES:
            if many == 12:
                continue
            table = fars(many, roads)
            place = chance.randrange(many)
            grown = (many + 1, roads + [[place, many, chance.choice((1, 5, GREAT))]])
            for word in PLACED + ("balance", "goods"):
                asked = chance_asked(chance, word, many, roads, table)
                before = worth(word, (many, roads), asked)
                self.assertEqual(worth(word, grown, asked_with_a_leaf(word, asked)), before, (word, many, roads, asked))
            self.assertGreaterEqual(worth("middle", grown, []), worth("middle", (many, roads), []))
            new_leaf = max(fars(*grown)[many])
            self.assertEqual(worth("middle", grown, []), max(new_leaf, worth("middle", (many, roads), [])))
            for word in ("walks", "sweeps"):
                difference = worth(word, grown, []) - worth(word, (many, roads), [])
                self.assertIn(difference, (0, 1), (word, many, roads))

    def test_a_longer_road(self):
        chance = random.Random(113)
        for tree in TREES:
            table = fars(*tree)
            for number in range(tree[0] - 1):
                other = longer(tree, number, chance.choice((1, 2, GREAT)))
                for word in ("round", "middle", "goods", "balance"):
                    asked = chance_asked(chance, word, *tree, table)
                    self.assertGreaterEqual(worth(word, other, asked), worth(word, tree, asked), (word, tree, number))
                asked = chance_asked(chance, "reach", *tree, table)
                self.assertGreaterEqual(worth("reach", other, asked), worth("reach", tree, asked))
                for word in ("spots", "colours", "worths", "walks", "sweeps"):
                    asked = chance_asked(chance, word, *tree, table)
                    self.assertEqual(worth(word, other, asked), worth(word, tree, asked), (word, tree, number))

    def test_a_house_more(self):
        chance = random.Random(114)
        for tree in TREES:
            table = fars(*tree)
            asked = chance_asked(chance, "wells", *tree, table)
            before = worth("wells", tree, asked)
            for house in [[chance.randrange(tree[0]), 0]] + chance_houses(chance, table, 4):
                after = worth("wells", tree, asked + [house])
                served = any(table[house[0]][site] <= house[1] for site in asked[0])
                if before is None or not served:
                    self.assertIsNone(after)
                else:
                    self.assertIn(after - before, (0, 1))
            if len(asked) > 1:
                self.assertEqual(worth("wells", tree, asked + asked[1:]), before)

    def test_a_home_more(self):
        chance = random.Random(115)
        for tree in TREES:
            asked = chance_asked(chance, "reach", *tree, fars(*tree))
            before = worth("reach", tree, asked)
            for home in range(tree[0]):
                self.assertGreaterEqual(worth("reach", tree, asked[:2] + [asked[2] + [home]]), before)
            self.assertEqual(worth("reach", tree, asked[:2] + [asked[2] * 2]), before)

    def test_a_well_more(self):
        chance = random.Random(116)
        for tree in TREES:
            asked = chance_asked(chance, "reach", *tree, fars(*tree))[1:]
            told = [worth("reach", tree, [[count]] + asked) for count in (1, 2, 3, 12, HUGE)]
            self.assertEqual(told, sorted(told, reverse=True))

    def test_a_site_more(self):
        chance = random.Random(117)
        for tree in TREES:
            table = fars(*tree)
            for word, number in (("wells", 0), ("reach", 1)):
                asked = chance_asked(chance, word, *tree, table)
                before = worth(word, tree, asked)
                for site in [place for place in range(tree[0]) if place not in asked[number]]:
                    told = asked[:number] + [asked[number] + [site]] + asked[number + 1:]
                    after = worth(word, tree, told)
                    self.assertTrue(before is None or after <= before, (word, tree, asked, site))

    def test_a_yard_more(self):
        chance = random.Random(118)
        for tree in TREES:
            yards = [chance_lump(chance, *tree) for _ in range(5)]
            worths = [chance.randint(0, 9) for _ in range(6)]
            more = yards + [chance_lump(chance, *tree)]
            for word in ("spots", "colours"):
                self.assertIn(worth(word, tree, more) - worth(word, tree, yards), (0, 1))
            before, after = worth("worths", tree, [worths[:5]] + yards), worth("worths", tree, [worths] + more)
            self.assertTrue(before <= after <= before + worths[5])
            self.assertGreaterEqual(after, worths[5])

    def test_a_place_more(self):
        chance = random.Random(119)
        for tree in TREES:
            table = fars(*tree)
            some = [chance.randrange(tree[0]) for _ in range(chance.randint(1, 5))]
            before, held = worth("round", tree, [some]), hull(*tree, some)
            for place in range(tree[0]):
                after = worth("round", tree, [some + [place]])
                self.assertEqual(after, before + 2 * min(table[place][other] for other in held))

    def test_worths_told_greater(self):
        chance = random.Random(120)
        for tree in TREES:
            asked = chance_asked(chance, "worths", *tree, fars(*tree))
            before = worth("worths", tree, asked)
            self.assertEqual(worth("worths", tree, [[3 * value for value in asked[0]]] + asked[1:]), 3 * before)
            for number in range(len(asked[0])):
                told = [asked[0][:number] + [asked[0][number] + 2] + asked[0][number + 1:]] + asked[1:]
                self.assertIn(worth("worths", tree, told) - before, (0, 1, 2))

    def test_all_lengths_told_thrice_as_long(self):
        chance = random.Random(121)
        for tree in TREES:
            other = (tree[0], [[a, b, 3 * length] for a, b, length in tree[1]])
            for word in ("middle", "balance", "reach", "goods", "round"):
                asked = chance_asked(chance, word, *tree, fars(*tree))
                self.assertEqual(worth(word, other, asked), 3 * worth(word, tree, asked))


class GrownAndCut(unittest.TestCase):
    def test_a_tree_that_grew_and_was_cut_answers_as_before(self):
        chance = random.Random(130)
        for many, roads in TREES[::4]:
            if many == 12:
                continue
            desk, table = Desk(), fars(many, roads)
            desk.say(f"tree t {shown_tree(many, roads)}")
            rows = [f"worth t {word} {shown_rows(chance_asked(chance, word, many, roads, table)[:1])}"
                    for word in ("middle", "balance", "goods", "walks", "sweeps", "round")]
            before = [desk.say(row) for row in rows]
            desk.say(f"grow t {chance.randrange(many)} 3")
            self.assertNotEqual(desk.say("show t"), shown_tree(many, roads))
            desk.say(f"cut t {many}")
            self.assertEqual(read_tree(desk.say("show t")), (many, roads))
            self.assertEqual([desk.say(row) for row in rows], before)

    def test_a_tree_cut_at_any_leaf_keeps_how_far_the_others_are_apart(self):
        for many, roads in TREES:
            table = fars(many, roads)
            for leaf in leaves(many, roads):
                desk = Desk()
                desk.say(f"tree t {shown_tree(many, roads)}")
                desk.say(f"cut t {leaf}")
                left = [place for place in range(many) if place != leaf]
                told = read_tree(desk.say("show t"))
                self.assertTrue(is_tree(*told))
                self.assertEqual(fars(*told), [[table[a][b] for b in left] for a in left])


class Trees(unittest.TestCase):
    def test_ways_hulls_and_lumps_agree(self):
        chance = random.Random(140)
        for many, roads in TREES:
            table = fars(many, roads)
            a, b = chance.randrange(many), chance.randrange(many)
            self.assertEqual(way(many, roads, a, b), between(table, a, b))
            self.assertEqual(hull(many, roads, [a, b]), sorted(way(many, roads, a, b)))
            self.assertIs(is_lump(many, roads, way(many, roads, a, b)), True)
            self.assertEqual(spot_far(many, roads, [a, a, 0], b), 2 * far(many, roads, a, b))


if __name__ == "__main__":
    unittest.main()
