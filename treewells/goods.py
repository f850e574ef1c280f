"""Goods: sendings of the least cost, and levels of the places that pay as much."""

from treewells.errors import NoGift
from treewells.trees import are_places, check_places, check_tree, fars_from, is_whole, neighbours, places_beyond


def are_gives(many, gives):
    return len(gives) == many and all([is_whole(gift) for gift in gives]) and sum(gives) == 0


def check_gives(many, gives):
    if not are_gives(many, gives):
        raise NoGift("gives are a number for each place, together 0")


def loads(many, roads, gives):
    check_tree(many, roads)
    check_gives(many, gives)
    near = neighbours(many, roads)
    found = []
    for row in roads:
        # Over the road must come what lacks beyond it, whichever sendings bring it.
        found.append(-sum([gives[place] for place in places_beyond(near, row[0], row[1])]))
    return found


def least_cost(many, roads, gives):
    return sum([row[2] * abs(load) for row, load in zip(roads, loads(many, roads, gives))])


def sendings(many, roads, gives):
    found = []
    # Goods that go from neighbour to neighbour never go to and fro on a road.
    for row, load in zip(roads, loads(many, roads, gives)):
        if load > 0:
            found.append([row[0], row[1], load])
        if load < 0:
            found.append([row[1], row[0], -load])
    return found


def is_sending(many, row):
    if len(row) != 3 or not is_whole(row[2]):
        return False
    return are_places(many, row[:2]) and row[0] != row[1] and row[2] >= 1


def are_sendings(many, roads, gives, rows):
    check_tree(many, roads)
    check_gives(many, gives)
    if not all([is_sending(many, row) for row in rows]):
        return False
    left = list(gives)
    for row in rows:
        left[row[0]] -= row[2]
        left[row[1]] += row[2]
    return not any(left)


def cost_of(many, roads, rows):
    check_tree(many, roads)
    for row in rows:
        check_places(many, row[:2])
    near = neighbours(many, roads)
    fars = [fars_from(near, place) for place in range(many)]
    return sum([row[2] * fars[row[0]][row[1]] for row in rows])


def levels(many, roads, gives):
    rows = sendings(many, roads, gives)
    near = neighbours(many, roads)
    found = [0 for place in near]
    # Where the level rises by a road's length to where its goods go, they pay just what they cost.
    for row in rows:
        for place in places_beyond(near, row[0], row[1]):
            found[place] += near[row[0]][row[1]]
    return found


def are_levels(many, roads, some):
    check_tree(many, roads)
    if len(some) != many or not all([is_whole(level) for level in some]):
        return False
    return all([abs(some[row[0]] - some[row[1]]) <= row[2] for row in roads])


def pay(gives, some):
    # Without a tree the levels tell how many places there are.
    check_gives(len(some), gives)
    return -sum([gift * level for gift, level in zip(gives, some)])
