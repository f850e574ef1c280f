"""Yards and worths: the best yards that lie apart, and prices of places that come to as much."""

from treewells.errors import NoWorth
from treewells.trees import is_whole, neighbours
from treewells.yards import check_yards, gates_of, outer_first


def are_worths(yards, worths):
    return len(worths) == len(yards) and all([is_whole(worth) and worth >= 0 for worth in worths])


def check_worths(yards, worths):
    if not are_worths(yards, worths):
        raise NoWorth("worths are a number from 0 on for each yard")


# The prices, and the yards for which one was raised, in that order. Raising it at the gate alone gives
# as much as can be to the yards that come later.
def raise_prices(many, roads, yards, worths):
    check_yards(many, roads, yards)
    check_worths(yards, worths)
    near = neighbours(many, roads)
    gates = gates_of(near, yards)
    priced = [0 for place in near]
    raised = []
    for number in outer_first(near, gates):
        lack = worths[number] - sum([priced[place] for place in yards[number]])
        if lack > 0:
            priced[gates[number]] += lack
            raised.append(number)
    return (priced, raised)


def best_yards(many, roads, yards, worths):
    raised = raise_prices(many, roads, yards, worths)[1]
    held = {}
    chosen = []
    # Backwards, each place with a price comes to lie in just one chosen yard, and of a chosen yard no
    # price was raised any more behind its own: so the worths come to just all prices.
    for number in reversed(raised):
        if not any([place in held for place in yards[number]]):
            chosen.append(number)
            for place in yards[number]:
                held[place] = True
    return sorted(chosen)


def prices(many, roads, yards, worths):
    return raise_prices(many, roads, yards, worths)[0]
