"""What is handed in stays as it was, and what is told is the asker's own."""

import copy
import unittest

from samples import FORK, NO_TREES, all_trees
from treewells.desk import Desk
from treewells.errors import (NoGift, NoKind, NoName, NoPlace, NoQuestion, NoRoad, NoRow, NoSite, NoSpot, NoText,
                              NoTree, NoWorth, NoYard, TreeError)
from treewells.gatherings import Colours, Round, Spots, Sweeps, Walks, Worths
from treewells.goods import are_levels, are_sendings, cost_of, least_cost, levels, loads, pay, sendings
from treewells.kinds import kind_of
from treewells.middles import balance, branches, ends, middle, spot_far, sum_from
from treewells.questions import Balance, Goods, Middle, Reach, Wells
from treewells.reaches import best_wells, least_reach, why_reach
from treewells.rounds import length_of, line_by, needed, round_by, sweeps, walks
from treewells.texts import read_rows, read_tree, shown_rows, shown_tree
from treewells.trees import beyond, far, hull, is_lump, is_tree, leaves, odd_places, way
from treewells.wells import serves, shy, wells
from treewells.worths import best_yards, prices
from treewells.yards import apart, colours, crowd, spots


TREES = all_trees()[:41] + all_trees()[41::2]


def askings(many, roads):
    wants = list(range(many))
    places = list(range(many))
    found = [
        (is_tree, ()), (shown_tree, ()), (leaves, ()), (odd_places, ()), (ends, ()), (middle, ()),
        (way, (0, many - 1)), (way, (0, 0)), (far, (many - 1, 0)),
        (is_lump, (places,)), (is_lump, ([many, 0, 0],)), (hull, (places,)), (hull, ([0],)),
        (hull, ([many - 1, 0, 0],)), (hull, ([],)), (spot_far, ([0, 0, 0], many - 1)),
        (sum_from, (wants, 0)), (balance, (wants,)), (branches, (wants, 0)),
    ]
    for a, b, length in roads:
        found += [(beyond, (a, b)), (spot_far, ([b, a, length], 0))]
    return found + diggings(many, roads) + gatherings(many, roads) + goings(many, roads) + questions(many, roads)


def diggings(many, roads):
    """Questions of wells and reaches: houses that all are served, that none are, and no houses."""
    places = list(range(many))
    houses = [[place, (7 * place) % 5] for place in reversed(places)] * 2
    found = [(serves, (0, [many - 1, 1]))]
    for ask in (wells, shy):
        found += [(ask, (houses, places[::-1])), (ask, (houses, [])), (ask, ([], places)), (ask, (houses, [0]))]
    for ask in (least_reach, best_wells, why_reach):
        for homes in (places[::-1] * 2, [many - 1], []):
            found += [(ask, (homes, places[::-1], 1)), (ask, (homes, places[::-1], 3)), (ask, (homes, [0], 2))]
    return found


def gatherings(many, roads):
    """Questions of yards and worths: the places, the roads' two places, the whole tree, and no yards."""
    yards = [road[1::-1] for road in roads] + [[place] for place in range(many)] + [list(range(many))[::-1]]
    worths = [(5 * number) % 7 for number in range(len(yards))]
    found = []
    for some in (yards, yards * 2, [list(range(many))], []):
        found += [(ask, (some,)) for ask in (spots, apart, colours, crowd)]
    for ask in (best_yards, prices):
        found += [(ask, (yards, worths)), (ask, (yards, [0] * len(yards))), (ask, ([], []))]
    return found


def goings(many, roads):
    """Questions of goods, walks and rounds: goods to and from the ends, none at all, and some places and none."""
    places = list(range(many))
    gives = [1 - many] + [1] * (many - 1)
    found = [(walks, ()), (sweeps, ()), (cost_of, ([[a, b, 3] for a, b, _ in roads],)), (cost_of, ([],))]
    found += [(length_of, ([road[0], road[1], road[0]],)) for road in roads] + [(length_of, ([],))]
    for some in (gives, [0] * many):
        found += [(ask, (some,)) for ask in (sendings, loads, least_cost, levels, are_levels)]
        found += [(are_sendings, (some, rows)) for rows in ([], [[a, b, 1] for a, b, _ in roads], [[0]])]
    for some in (places, [many - 1, 0, 0], [0], []):
        found += [(round_by, (some,)), (needed, (some,)), (line_by, (many - 1, some))]
    return found


def questions(many, roads):
    """All that kinds are asked, with their own answers and papers and with rows that are none."""
    places = list(range(many))
    yards = [road[1::-1] for road in roads] + [places[::-1]]
    found = []
    for kind, asked in ((Spots(), yards), (Colours(), yards), (Worths(), [list(range(many)[::-1])] + yards),
                        (Spots(), []), (Walks(), []), (Sweeps(), []), (Round(), [places[::-1] * 2]), (Round(), [[]]),
                        (Middle(), []), (Balance(), [places]), (Wells(), [places[::-1], [0, 1], [many - 1, 2], [0, 1]]),
                        (Wells(), [[], [0, 0], [0, 1]]), (Reach(), [[1], places[::-1], places * 2]),
                        (Reach(), [[1], [many - 1], [0]]), (Goods(), [[1 - many] + [1] * (many - 1)])):
        found += [(ask, (asked,)) for ask in (kind.fits, kind.answer, kind.paper, kind.worth)]
        rows, paper = kind.answer(many, roads, asked), kind.paper(many, roads, asked)
        for worth in (kind.worth(many, roads, asked), 0, None):
            found += [(kind.takes, (asked, some, worth)) for some in (rows or [], [places[::-1]], [])]
            found += [(kind.shows, (asked, some, worth)) for some in (paper, [places[::-1]], [])]
    return found


def spoil(told):
    """Changes every list of what was told, as deep as it goes."""
    if isinstance(told, list):
        for thing in told:
            spoil(thing)
        told.append("spoilt")
        told.reverse()


def talk(row):
    """What a desk with a tree answers."""
    desk = Desk()
    desk.say(f"tree a {shown_tree(*FORK)}")
    return desk.say(row)


REFUSED = [
    (NoTree, way, (*NO_TREES[-2], 0, 0)), (NoTree, hull, (*NO_TREES[-2], [0])), (NoPlace, way, (*FORK, 0, 4)),
    (NoPlace, hull, (*FORK, [3, 0, 9])), (NoRoad, beyond, (*FORK, 0, 3)), (NoSpot, spot_far, (*FORK, [3, 0, 1], 0)),
    (NoWorth, balance, (*FORK, [3, 2, 1])), (NoWorth, branches, (*FORK, [3, 2, 1, -1], 0)),
    (NoTree, wells, (*NO_TREES[-2], [[0, 1]], [0])), (NoTree, prices, (*NO_TREES[-2], [[0]], [1])),
    (NoPlace, serves, (*FORK, 0, [4, 1])), (NoPlace, wells, (*FORK, [[3, 1], [4, 1]], [2, 1])),
    (NoSite, wells, (*FORK, [[3, 1], [0, 1]], [2, 1, 2])), (NoSite, shy, (*FORK, [[3, 1]], [2, 1, 2])),
    (NoPlace, least_reach, (*FORK, [3, 9], [2, 1], 1)), (NoSite, least_reach, (*FORK, [3, 0], [2, 1], 0)),
    (NoSite, best_wells, (*FORK, [3, 0], [], 1)), (NoSite, why_reach, (*FORK, [3, 0], [2, 2], 1)),
    (NoYard, spots, (*FORK, [[3, 1], [3, 0]])), (NoYard, apart, (*FORK, [[3, 1], []])),
    (NoYard, colours, (*FORK, [[3, 1], [1, 1]])), (NoYard, crowd, (*FORK, [[3, 1], [4]])),
    (NoYard, best_yards, (*FORK, [[3, 1], [3, 0]], [2, -1])), (NoWorth, best_yards, (*FORK, [[3, 1], [1, 0]], [2, -1])),
    (NoWorth, prices, (*FORK, [[3, 1], [1, 0]], [2])), (NoTree, loads, (*NO_TREES[-2], [1])),
    (NoGift, sendings, (*FORK, [3, -2, -1])), (NoGift, levels, (*FORK, [3, -2, -1, 1])),
    (NoGift, are_sendings, (*FORK, [3, -2, -1, 1], [[3, 0, 1]])), (NoPlace, cost_of, (*FORK, [[3, 0, 1], [4, 0, 1]])),
    (NoGift, pay, ([3, -2], [1, 2])), (NoTree, round_by, (*NO_TREES[-2], [5])), (NoPlace, round_by, (*FORK, [3, 0, 9])),
    (NoPlace, needed, (*FORK, [3, 0, 9])), (NoPlace, line_by, (*FORK, 9, [3, 0])),
    (NoPlace, length_of, (*FORK, [3, 9])), (NoTree, shown_tree, NO_TREES[-2]), (NoTree, read_tree, ("2 / 0 1 0",)),
    (NoText, read_tree, ("2 / 0 1 00",)), (NoText, read_rows, ("1 /",)), (NoKind, kind_of, ("yards",)),
    (NoRow, Desk().say, ("show",)), (NoName, Desk().say, ("show a",)), (NoQuestion, talk, ("answer a walks .",)),
    (NoRoad, talk, ("cut a 1",)), (NoPlace, talk, ("cut a 4",)), (NoTree, talk, ("grow a 3 0",)),
]


class Handed(unittest.TestCase):
    def test_nothing_handed_in_is_changed(self):
        for many, roads in TREES:
            before = copy.deepcopy(roads)
            for ask, rest in askings(many, roads):
                rest_before = copy.deepcopy(rest)
                ask(many, roads, *rest)
                self.assertEqual((roads, rest), (before, rest_before), ask)

    def test_nothing_handed_in_is_changed_by_a_refusal(self):
        for error, ask, handed in REFUSED:
            before = copy.deepcopy(handed)
            self.assertRaises(error, ask, *handed)
            self.assertEqual(handed, before)

    def test_pay_changes_nothing(self):
        gives, some = [3, -1, -2], [5, 0, -7]
        self.assertEqual(pay(gives, some), -29)
        self.assertEqual((gives, some), ([3, -1, -2], [5, 0, -7]))

    def test_texts_change_nothing(self):
        rows = [[1, 2], [], [-3]]
        self.assertEqual(shown_rows(rows), "1 2 / . / -3")
        self.assertEqual(rows, [[1, 2], [], [-3]])

    def test_what_is_read_is_the_readers_own(self):
        for ask, text in ((read_rows, "1 2 / . / -3"), (read_tree, "3 / 0 1 4 / 1 2 5")):
            told = ask(text)
            kept = copy.deepcopy(told)
            for thing in told:
                spoil(thing)
            self.assertEqual(ask(text), kept)

    def test_what_is_told_is_the_askers_own(self):
        for many, roads in TREES:
            before = copy.deepcopy(roads)
            for ask, rest in askings(many, roads):
                rest_before = copy.deepcopy(rest)
                told = ask(many, roads, *rest)
                kept = copy.deepcopy(told)
                spoil(told)
                self.assertEqual((roads, rest), (before, rest_before), ask)
                self.assertEqual(ask(many, roads, *rest), kept, ask)

    def test_what_was_told_stays_when_more_is_asked(self):
        for many, roads in TREES:
            told = [ask(many, roads, *rest) for ask, rest in askings(many, roads)]
            kept = copy.deepcopy(told)
            for ask, rest in askings(many, roads):
                spoil(ask(many, roads, *rest))
            self.assertEqual(told, kept)

    def test_what_was_told_stays_when_the_handed_lists_change(self):
        roads, some, wants = copy.deepcopy(FORK[1]), [0, 1, 2, 3], [1, 2, 3, 4]
        houses, yards, worths = [[3, 0], [0, 0], [1, 0], [2, 0]], [[0], [1], [2], [3]], [4, 3, 2, 1]
        gives = [3, -1, -1, -1]
        told = [hull(4, roads, some), branches(4, roads, wants, 1), middle(4, roads), beyond(4, roads, 0, 1),
                wells(4, roads, houses, some), shy(4, roads, houses, some), best_wells(4, roads, some, some, 4),
                why_reach(4, roads, some, some, 1), spots(4, roads, yards), apart(4, roads, yards),
                colours(4, roads, yards), best_yards(4, roads, yards, worths), prices(4, roads, yards, worths),
                sendings(4, roads, gives), levels(4, roads, gives), round_by(4, roads, some), needed(4, roads, some),
                line_by(4, roads, 0, some), walks(4, roads), sweeps(4, roads), Goods().answer(4, roads, [gives]),
                Balance().paper(4, roads, [wants]), Wells().answer(4, roads, [some] + houses),
                Reach().paper(4, roads, [[1], some, some]), Spots().answer(4, roads, yards),
                Colours().answer(4, roads, yards), Worths().paper(4, roads, [worths] + yards),
                Round().answer(4, roads, [some]), Round().paper(4, roads, [some]), Walks().answer(4, roads, []),
                Sweeps().paper(4, roads, []), shown_tree(4, roads), shown_rows(yards)]
        kept = copy.deepcopy(told)
        for handed in (roads, some, wants, houses, yards, worths, gives):
            spoil(handed)
        self.assertEqual(told, kept)


class Refusals(unittest.TestCase):
    def test_each_is_caught_by_three_names_and_no_other(self):
        names = (NoTree, NoPlace, NoRoad, NoSpot, NoSite, NoYard, NoWorth, NoGift, NoText, NoKind, NoQuestion, NoRow,
                 NoName)
        self.assertEqual({error for error, _, _ in REFUSED}, set(names))
        for error, ask, handed in REFUSED:
            for name in (error, TreeError, ValueError):
                self.assertRaises(name, ask, *handed)
            try:
                ask(*handed)
            except TreeError as caught:
                self.assertEqual([name for name in names if isinstance(caught, name)], [error])


if __name__ == "__main__":
    unittest.main()
