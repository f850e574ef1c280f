"""Yards: spots that meet them all, yards that lie apart, and colours that tell them apart."""

from treewells.errors import NoYard
from treewells.trees import check_tree, fars_from, is_lump, neighbours


def check_yards(many, roads, yards):
    check_tree(many, roads)
    if not all([is_lump(many, roads, yard) for yard in yards]):
        raise NoYard("a yard is to be a lump of places")


# For each yard its gate: its place nearest to place 0. Just one is, as a yard is a lump, and where two
# yards are not apart, the gate that lies farther from place 0 is in both of them.
def gates_of(near, yards):
    depths = fars_from(near, 0)
    return [min(yard, key=lambda place: depths[place]) for yard in yards]


# The numbers of the yards, those first whose gates lie farthest from place 0.
def outer_first(near, gates):
    depths = fars_from(near, 0)
    return sorted(range(len(gates)), key=lambda number: depths[gates[number]], reverse=True)


# The spots and the yards apart: each spot is taken for just one of these, so they are as many.
def meet(many, roads, yards):
    check_yards(many, roads, yards)
    near = neighbours(many, roads)
    gates = gates_of(near, yards)
    taken = []
    lone = []
    for number in outer_first(near, gates):
        if not any([place in taken for place in yards[number]]):
            taken.append(gates[number])
            lone.append(number)
    return (sorted(taken), sorted(lone))


def spots(many, roads, yards):
    return meet(many, roads, yards)[0]


def apart(many, roads, yards):
    return meet(many, roads, yards)[1]


def least_unused(used):
    number = 0
    while number in used:
        number += 1
    return number


def colours(many, roads, yards):
    check_yards(many, roads, yards)
    near = neighbours(many, roads)
    gates = gates_of(near, yards)
    given = {}
    # From the inside out, all yards that have a colour and are not apart from this one lie at its gate:
    # so no number is given that is not below the number of yards at one place.
    for number in reversed(outer_first(near, gates)):
        used = [(given[other], True) for other in given if gates[number] in yards[other]]
        given[number] = least_unused(dict(used))
    return [given[number] for number in range(len(yards))]


def crowd(many, roads, yards):
    check_yards(many, roads, yards)
    counts = [len([yard for yard in yards if place in yard]) for place in range(many)]
    return counts.index(max(counts))
