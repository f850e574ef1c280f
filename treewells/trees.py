"""Trees of places and roads: ways, what lies beyond a road, lumps and hulls."""

from treewells.errors import NoPlace, NoRoad, NoTree

MOST_PLACES = 12


def is_whole(value):
    # To Python a truth is an int too.
    return isinstance(value, int) and not isinstance(value, bool)


def is_place(many, value):
    return is_whole(value) and 0 <= value < many


def are_places(many, some):
    return all([is_place(many, value) for value in some])


def are_unlike(some):
    return len(set(some)) == len(some)


def is_road(many, row):
    if len(row) != 3 or not is_whole(row[2]):
        return False
    return is_place(many, row[0]) and is_place(many, row[1]) and row[0] != row[1] and row[2] >= 1


def is_tree(many, roads):
    # The number of places comes first: it may be too great to count up to.
    if not is_whole(many) or many < 1 or many > MOST_PLACES:
        return False
    if len(roads) != many - 1 or not all([is_road(many, row) for row in roads]):
        return False
    # So few roads reach all places only where none is told twice or closes a ring.
    return len(steps_to(neighbours(many, roads), 0)) == many


def check_tree(many, roads):
    if not is_tree(many, roads):
        raise NoTree("this is no tree")


def check_places(many, some):
    # The words leave the number out: it may be too great for Python to write.
    if not are_places(many, some):
        raise NoPlace("this is no place of the tree")


# For each place a dict of the lengths of its roads, by the neighbour to which they lead.
def neighbours(many, roads):
    near = [{} for place in range(many)]
    for row in roads:
        near[row[0]][row[1]] = row[2]
        near[row[1]][row[0]] = row[2]
    return near


# For each place from which goal can be reached the next one on the way there, nearer ones first.
def steps_to(near, goal):
    steps = {goal: goal}
    reached = [goal]
    done = 0
    while done < len(reached):
        here = reached[done]
        for place in near[here]:
            if place not in steps:
                steps[place] = here
                reached.append(place)
        done += 1
    return steps


def fars_from(near, start):
    steps = steps_to(near, start)
    fars = [0 for place in near]
    # The steps are in the order of reaching, so the one ahead is always measured already.
    for place in steps:
        if place != start:
            fars[place] = fars[steps[place]] + near[place][steps[place]]
    return fars


def way_between(near, a, b):
    steps = steps_to(near, b)
    places = [a]
    while places[-1] != b:
        places.append(steps[places[-1]])
    return places


def way(many, roads, a, b):
    check_tree(many, roads)
    check_places(many, [a, b])
    return way_between(neighbours(many, roads), a, b)


def far(many, roads, a, b):
    check_tree(many, roads)
    check_places(many, [a, b])
    return fars_from(neighbours(many, roads), a)[b]


def places_beyond(near, a, b):
    # A road parts the tree in two, so beyond it lies just what is nearer to b than to a.
    from_a = fars_from(near, a)
    from_b = fars_from(near, b)
    return [place for place in range(len(near)) if from_b[place] < from_a[place]]


def beyond(many, roads, a, b):
    check_tree(many, roads)
    check_places(many, [a, b])
    near = neighbours(many, roads)
    if b not in near[a]:
        raise NoRoad("these two places are no neighbours")
    return places_beyond(near, a, b)


def is_lump(many, roads, some):
    check_tree(many, roads)
    if len(some) == 0 or not are_places(many, some) or not are_unlike(some):
        return False
    inner = [row for row in roads if row[0] in some and row[1] in some]
    # As there is no ring, the places hang together just where so many roads lie among them.
    return len(inner) == len(some) - 1


def hull(many, roads, some):
    check_tree(many, roads)
    check_places(many, some)
    near = neighbours(many, roads)
    held = {}
    # The ways to one of the places are enough: the way between two others lies within theirs.
    for place in sorted(set(some)):
        for passed in way_between(near, place, some[0]):
            held[passed] = True
    return sorted(held)


def leaves(many, roads):
    check_tree(many, roads)
    near = neighbours(many, roads)
    return [place for place in range(many) if len(near[place]) == 1]


def odd_places(many, roads):
    check_tree(many, roads)
    near = neighbours(many, roads)
    return [place for place in range(many) if len(near[place]) % 2 == 1]
