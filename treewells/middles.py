"""Middles of trees: ends, spots on roads, and the balance of wants."""

from treewells.errors import NoSpot, NoWorth
from treewells.trees import check_places, check_tree, fars_from, is_place, is_whole
from treewells.trees import neighbours, places_beyond, way_between


def farthest(near, start):
    fars = fars_from(near, start)
    return fars.index(max(fars))


def end_pair(near):
    # In a tree what lies farthest from any place at all is an end of a longest way.
    first = farthest(near, 0)
    return (first, farthest(near, first))


def ends(many, roads):
    check_tree(many, roads)
    return end_pair(neighbours(many, roads))


def is_spot(near, spot):
    if len(spot) != 3 or not all([is_whole(value) for value in spot]):
        return False
    if not is_place(len(near), spot[0]):
        return False
    if spot[0] == spot[1]:
        return spot[2] == 0
    return spot[1] in near[spot[0]] and 0 <= spot[2] <= 2 * near[spot[0]][spot[1]]


def spot_far(many, roads, spot, place):
    check_tree(many, roads)
    check_places(many, [place])
    near = neighbours(many, roads)
    if not is_spot(near, spot):
        raise NoSpot("this is no spot of the tree")
    fars = fars_from(near, place)
    if spot[0] == spot[1]:
        return 2 * fars[spot[0]]
    by_first = 2 * fars[spot[0]] + spot[2]
    by_second = 2 * (fars[spot[1]] + near[spot[0]][spot[1]]) - spot[2]
    return min(by_first, by_second)


def middle(many, roads):
    check_tree(many, roads)
    near = neighbours(many, roads)
    pair = end_pair(near)
    places = way_between(near, pair[0], pair[1])
    # Half of the way between the ends is, in halves, as much as the whole way is in wholes.
    halves = fars_from(near, pair[0])[pair[1]]
    for here, there in zip(places, places[1:]):
        road = 2 * near[here][there]
        if halves <= road:
            return [here, there, halves]
        halves -= road
    return [places[0], places[0], 0]


def are_wants(many, wants):
    return len(wants) == many and all([is_whole(want) and want >= 0 for want in wants])


def check_wants(many, wants):
    if not are_wants(many, wants):
        raise NoWorth("wants are a number from 0 on for each place")


def sum_at(near, wants, place):
    return sum([want * length for want, length in zip(wants, fars_from(near, place))])


def sum_from(many, roads, wants, place):
    check_tree(many, roads)
    check_places(many, [place])
    check_wants(many, wants)
    return sum_at(neighbours(many, roads), wants, place)


def balance(many, roads, wants):
    check_tree(many, roads)
    check_wants(many, wants)
    near = neighbours(many, roads)
    sums = [sum_at(near, wants, place) for place in range(many)]
    # The first of the least sums is the one of the least number.
    return sums.index(min(sums))


def branches(many, roads, wants, place):
    check_tree(many, roads)
    check_places(many, [place])
    check_wants(many, wants)
    near = neighbours(many, roads)
    rows = []
    for neighbour in sorted(near[place]):
        beyond_it = places_beyond(near, place, neighbour)
        rows.append([neighbour, sum([wants[other] for other in beyond_it])])
    return rows
