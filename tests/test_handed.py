"""What is handed in stays as it was, and what is told is the asker's own."""

import copy
import unittest

from samples import FORK, NO_TREES, all_trees
from treewells.errors import NoPlace, NoRoad, NoSpot, NoTree, NoWorth, TreeError
from treewells.middles import balance, branches, ends, middle, spot_far, sum_from
from treewells.trees import beyond, far, hull, is_lump, is_tree, leaves, odd_places, way


def askings(many, roads):
    wants = list(range(many))
    places = list(range(many))
    found = [
        (is_tree, ()), (leaves, ()), (odd_places, ()), (ends, ()), (middle, ()),
        (way, (0, many - 1)), (way, (0, 0)), (far, (many - 1, 0)),
        (is_lump, (places,)), (is_lump, ([many, 0, 0],)), (hull, (places,)), (hull, ([0],)),
        (hull, ([many - 1, 0, 0],)), (hull, ([],)), (spot_far, ([0, 0, 0], many - 1)),
        (sum_from, (wants, 0)), (balance, (wants,)), (branches, (wants, 0)),
    ]
    for a, b, length in roads:
        found += [(beyond, (a, b)), (spot_far, ([b, a, length], 0))]
    return found


def spoil(told):
    """Changes every list of what was told, as deep as it goes."""
    if isinstance(told, list):
        for thing in told:
            spoil(thing)
        told.append("spoilt")
        told.reverse()


REFUSED = [
    (NoTree, way, (*NO_TREES[-2], 0, 0)), (NoTree, hull, (*NO_TREES[-2], [0])), (NoPlace, way, (*FORK, 0, 4)),
    (NoPlace, hull, (*FORK, [3, 0, 9])), (NoRoad, beyond, (*FORK, 0, 3)), (NoSpot, spot_far, (*FORK, [3, 0, 1], 0)),
    (NoWorth, balance, (*FORK, [3, 2, 1])), (NoWorth, branches, (*FORK, [3, 2, 1, -1], 0)),
]


class Handed(unittest.TestCase):
    def test_nothing_handed_in_is_changed(self):
        for many, roads in all_trees():
            before = copy.deepcopy(roads)
            for ask, rest in askings(many, roads):
                rest_before = copy.deepcopy(rest)
                ask(many, roads, *rest)
                self.assertEqual((roads, rest), (before, rest_before), ask)

    def test_nothing_handed_in_is_changed_by_a_refusal(self):
        for error, ask, handed in REFUSED:
            before = copy.deepcopy(handed)
            self.assertRaises(error, ask, *handed)
            self.assertEqual(handed, before)

    def test_what_is_told_is_the_askers_own(self):
        for many, roads in all_trees():
            before = copy.deepcopy(roads)
            for ask, rest in askings(many, roads):
                rest_before = copy.deepcopy(rest)
                told = ask(many, roads, *rest)
                kept = copy.deepcopy(told)
                spoil(told)
                self.assertEqual((roads, rest), (before, rest_before), ask)
                self.assertEqual(ask(many, roads, *rest), kept, ask)

    def test_what_was_told_stays_when_more_is_asked(self):
        for many, roads in all_trees():
            told = [ask(many, roads, *rest) for ask, rest in askings(many, roads)]
            kept = copy.deepcopy(told)
            for ask, rest in askings(many, roads):
                spoil(ask(many, roads, *rest))
            self.assertEqual(told, kept)

    def test_what_was_told_stays_when_the_handed_lists_change(self):
        roads, some, wants = copy.deepcopy(FORK[1]), [0, 1, 2, 3], [1, 2, 3, 4]
        told = [hull(4, roads, some), branches(4, roads, wants, 1), middle(4, roads), beyond(4, roads, 0, 1)]
        kept = copy.deepcopy(told)
        spoil(roads)
        spoil(some)
        spoil(wants)
        self.assertEqual(told, kept)


class Refusals(unittest.TestCase):
    def test_each_is_caught_by_three_names_and_no_other(self):
        names = (NoTree, NoPlace, NoRoad, NoSpot, NoWorth)
        for error, ask, handed in REFUSED:
            for name in (error, TreeError, ValueError):
                self.assertRaises(name, ask, *handed)
            try:
                ask(*handed)
            except TreeError as caught:
                self.assertEqual([name for name in names if isinstance(caught, name)], [error])


if __name__ == "__main__":
    unittest.main()
