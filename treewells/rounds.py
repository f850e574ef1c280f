"""Walks and sweeps over all roads, and rounds and lines by some places."""

from treewells.errors import NoRoad
from treewells.trees import check_places, check_tree, fars_from, hull, leaves, neighbours, odd_places, way_between


# A walk from start over roads that are left, as far as it goes; these are left no more then.
def walk_off(left, start):
    places = [start]
    while len(left[places[-1]]) > 0:
        here = places[-1]
        there = min(left[here])
        left[here].pop(there)
        left[there].pop(here)
        places.append(there)
    return places


def walks(many, roads):
    check_tree(many, roads)
    left = neighbours(many, roads)
    found = []
    # A walk that begins where an odd number of roads is left ends at another such place, so that both
    # are even then. When all places are even, no road is left: else some place would have just one.
    for place in odd_places(many, roads):
        if len(left[place]) % 2 == 1:
            found.append(walk_off(left, place))
    return found


def sweeps(many, roads):
    check_tree(many, roads)
    near = neighbours(many, roads)
    # So sorted, the leaves beyond a road stand side by side, and on one of its sides at most half of
    # them lie: of each leaf there, the one that stands half of the leaves away lies on the other side.
    ranked = sorted(leaves(many, roads), key=lambda leaf: way_between(near, 0, leaf))
    half = len(ranked) // 2
    return [way_between(near, ranked[number], ranked[number + half]) for number in range(len(ranked) - half)]


def line_from(near, start, some):
    fars = fars_from(near, start)
    last = max(some, key=lambda place: fars[place], default=start)
    last_way = way_between(near, start, last)
    # A line goes twice over each road of the hull, but once where it doesn't come back: so it ends at
    # the farthest place, and at each fork it leaves the branch that leads there for the end.
    ranks = {}
    for place in sorted(set(some)):
        ranks[place] = [(passed in last_way, passed) for passed in way_between(near, start, place)]
    places = [start]
    for place in sorted(ranks, key=lambda ranked: ranks[ranked]):
        places.extend(way_between(near, places[-1], place)[1:])
    return places


def line_by(many, roads, start, some):
    check_tree(many, roads)
    check_places(many, [start])
    check_places(many, some)
    return line_from(neighbours(many, roads), start, some)


def round_by(many, roads, some):
    check_tree(many, roads)
    check_places(many, some)
    if len(some) == 0:
        return []
    near = neighbours(many, roads)
    places = line_from(near, some[0], some)
    # Back from the end of a line: so each road of the hull is gone along just twice.
    return places + way_between(near, places[-1], some[0])[1:]


def needed(many, roads, some):
    held = hull(many, roads, some)
    return [list(row) for row in roads if row[0] in held and row[1] in held]


def length_of(many, roads, places):
    check_tree(many, roads)
    check_places(many, places)
    near = neighbours(many, roads)
    total = 0
    for here, there in zip(places, places[1:]):
        if there not in near[here]:
            raise NoRoad("a place is no neighbour of the one ahead")
        total += near[here][there]
    return total
