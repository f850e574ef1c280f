"""Wells: as few sites as can be that serve all houses, and as many houses that share no site."""

from treewells.errors import NoSite
from treewells.trees import are_unlike, check_places, check_tree, fars_from, neighbours


def check_sites(many, homes, sites):
    check_places(many, homes)
    check_places(many, sites)
    if not are_unlike(sites):
        raise NoSite("a site is told twice")


def serves(many, roads, site, house):
    check_tree(many, roads)
    check_places(many, [site, house[0]])
    return fars_from(neighbours(many, roads), house[0])[site] <= house[1]


def sites_serving(near, house, sites):
    fars = fars_from(near, house[0])
    return [site for site in sites if fars[site] <= house[1]]


# The wells (or None) and the shy houses: each well is dug for just one of these, so they are as many.
def dig(near, houses, sites):
    depths = fars_from(near, 0)
    upper_first = sorted(sites, key=lambda site: depths[site])
    serving = [sites_serving(near, house, upper_first) for house in houses]
    missed = [number for number in range(len(houses)) if len(serving[number]) == 0]
    if len(missed) > 0:
        return (None, missed[:1])
    # Seen from place 0, a house reaches up to its own depth less its reach. Where this ends lowest goes
    # first, and the uppermost site that serves it is dug: a house that is left and shares a site with it
    # reaches at least as far up, and so is served by that one too.
    order = sorted(range(len(houses)), key=lambda number: houses[number][1] - depths[houses[number][0]])
    dug = []
    lone = []
    for number in order:
        if not any([site in dug for site in serving[number]]):
            dug.append(serving[number][0])
            lone.append(number)
    return (sorted(dug), sorted(lone))


def dig_for(many, roads, houses, sites):
    check_tree(many, roads)
    check_sites(many, [house[0] for house in houses], sites)
    return dig(neighbours(many, roads), houses, sites)


def wells(many, roads, houses, sites):
    return dig_for(many, roads, houses, sites)[0]


def shy(many, roads, houses, sites):
    return dig_for(many, roads, houses, sites)[1]
