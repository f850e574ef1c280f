"""Trees to ask, and slow answers by definition that share no code with the program."""

import itertools
import random

GREAT = 10 ** 40 - 1
HUGE = 10 ** 100 - 1


def from_code(code, lengths):
    """The tree of a Pruefer code: each tree of len(code) + 2 places has just one."""
    many = len(code) + 2
    degree = [1 + code.count(place) for place in range(many)]
    roads = []
    for place in code:
        leaf = degree.index(1)
        roads.append([leaf, place])
        degree[leaf] -= 1
        degree[place] -= 1
    roads.append([place for place in range(many) if degree[place] == 1])
    return many, [road + [length] for road, length in zip(roads, lengths)]


def small_trees():
    """All trees of up to five places, with lengths that are alike and unlike."""
    found = [(1, [])]
    for many in range(2, 6):
        for code in itertools.product(range(many), repeat=many - 2):
            for lengths in ([1, 1, 1, 1], [3, 1, 2, 6]):
                found.append(from_code(list(code), lengths))
    return found


def great_trees():
    """Trees of six to twelve places, roads told either way round and in any order."""
    chance = random.Random(11)
    found = []
    for turn in range(70):
        many = 6 + turn % 7
        most = (1, 9, GREAT)[turn % 3]
        code = [chance.randrange(many) for _ in range(many - 2)]
        _, roads = from_code(code, [chance.randint(1, most) for _ in range(many - 1)])
        chance.shuffle(roads)
        found.append((many, [road if chance.random() < 0.5 else [road[1], road[0], road[2]] for road in roads]))
    for many in range(6, 13):
        found.append((many, [[place, place + 1, place + 1] for place in range(many - 1)]))
        found.append((many, [[many - 1, place, 2] for place in range(many - 1)]))
    return found


def all_trees():
    return small_trees() + great_trees()


def fars(many, roads):
    """How far any two places are apart, by trying each place as a stop on the way."""
    none = (GREAT + 1) * 20
    table = [[0 if a == b else none for b in range(many)] for a in range(many)]
    for a, b, length in roads:
        table[a][b] = length
        table[b][a] = length
    for stop in range(many):
        for a in range(many):
            for b in range(many):
                table[a][b] = min(table[a][b], table[a][stop] + table[stop][b])
    return table


def between(table, a, b):
    """The places of the way from a to b, in order."""
    passed = [c for c in range(len(table)) if table[a][c] + table[c][b] == table[a][b]]
    return sorted(passed, key=lambda c: table[a][c])


def has_road(roads, a, b):
    return any([a, b] in (road[:2], road[1::-1]) for road in roads)


def subsets(things):
    """All lists of some of the things, shorter ones first."""
    return [list(some) for size in range(len(things) + 1) for some in itertools.combinations(things, size)]


def lumps(many, roads):
    """All lumps, by definition."""
    table = fars(many, roads)
    return [some for some in subsets(range(many))[1:]
            if all(set(between(table, a, b)) <= set(some) for a in some for b in some)]


def chance_lump(chance, many, roads):
    """A lump that grew from one place along roads, its places in any order."""
    some = [chance.randrange(many)]
    for _ in range(chance.randrange(many)):
        rim = [b for road in roads for a, b in (road[:2], road[1::-1]) if a in some and b not in some]
        some += rim and [chance.choice(rim)]
    chance.shuffle(some)
    return some


def chance_sites(chance, many, least=0):
    return chance.sample(range(many), chance.randint(least, many))


def chance_houses(chance, table, most):
    """Houses whose reach is none, just enough for some place, or one more or less than that."""
    found = []
    for _ in range(chance.randint(0, most)):
        place = chance.randrange(len(table))
        reach = chance.choice(table[place]) + chance.choice((-1, 0, 0, 1))
        found.append([place, max(0, reach)])
    return found


def chance_gives(chance, many, most):
    """Gives that come to 0 together, each of them at most so great."""
    found = [0] * many
    for _ in range(many):
        a, b = chance.randrange(many), chance.randrange(many)
        room = min(most - found[a], most + found[b])
        amount = chance.choice((room, chance.randint(0, room)))
        found[a] += amount
        found[b] -= amount
    return found


def lie_apart(yards, numbers):
    """Whether no place is in two of the yards of these numbers."""
    held = [place for number in numbers for place in yards[number]]
    return len(held) == len(set(held))


def is_rising(some):
    return all(a < b for a, b in zip(some, some[1:]))


# Three roads that meet at 1: five long to 0, two long to 2 and seven long to 3.
FORK = (4, [[0, 1, 5], [2, 1, 2], [1, 3, 7]])

NO_TREES = [
    (0, []), (-1, []), (13, []), (2, []), (1, [[0, 0, 1]]), (2, [[0, 1, 0]]), (2, [[0, 2, 1]]),
    (3, [[0, 1, 1], [1, 0, 1]]), (3, [[0, 1, 1]]), (4, [[0, 1, 1], [1, 2, 1], [2, 0, 1]]), (HUGE, []),
]
