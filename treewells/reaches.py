"""The least reach for which so many wells are enough, and homes that show why."""

from treewells.errors import NoSite
from treewells.trees import check_tree, fars_from, is_whole, neighbours
from treewells.wells import check_sites, dig


def check_asked(many, roads, homes, sites, count):
    check_tree(many, roads)
    check_sites(many, homes, sites)
    if len(sites) == 0 or not is_whole(count) or count < 1:
        raise NoSite("there is to be one site or more, and one well or more")


def houses_of(homes, reach):
    return [[home, reach] for home in homes]


# How far homes lie from sites, rising: in between no other site comes to serve a home.
def steps_of_reach(near, homes, sites):
    lengths = {}
    for home in homes:
        fars = fars_from(near, home)
        for site in sites:
            lengths[fars[site]] = True
    return sorted(lengths)


def find_reach(near, homes, sites, count):
    # A home told again needs no other well.
    unlike = sorted(set(homes))
    for reach in steps_of_reach(near, unlike, sites):
        dug = dig(near, houses_of(unlike, reach), sites)[0]
        if dug is not None and len(dug) <= count:
            return reach
    # With the greatest reach each site serves all, so one gets here only where there are no homes.
    return 0


def least_reach(many, roads, homes, sites, count):
    check_asked(many, roads, homes, sites, count)
    return find_reach(neighbours(many, roads), homes, sites, count)


def best_wells(many, roads, homes, sites, count):
    check_asked(many, roads, homes, sites, count)
    near = neighbours(many, roads)
    reach = find_reach(near, homes, sites, count)
    return dig(near, houses_of(homes, reach), sites)[0]


def why_reach(many, roads, homes, sites, count):
    check_asked(many, roads, homes, sites, count)
    near = neighbours(many, roads)
    reach = find_reach(near, homes, sites, count)
    if reach == 0:
        return []
    # With less reach there is a home that no site serves, told alone, or there are shy homes enough.
    return dig(near, houses_of(homes, reach - 1), sites)[1][:count + 1]
