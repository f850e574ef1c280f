"""Answers and papers looked at by definition, in code that shares nothing with the program.

For each kind's word there is a judge of answers and one of papers, which get the lengths between all places, the
roads, the rows that ask, the rows to look at and a whole number as worth.
"""

import itertools

from samples import has_road, is_rising, lie_apart


def is_row(rows, size):
    return len(rows) == 1 and len(rows[0]) == size


def are_among(some, things):
    return all(value in things for value in some)


def halves_from(table, roads, spot, place):
    """How far a spot lies from a place in halves, or None where it is no spot."""
    a, b, p = spot
    if a not in range(len(table)) or b not in range(len(table)):
        return None
    if a == b:
        return 2 * table[a][place] if p == 0 else None
    if not has_road(roads, a, b) or not 0 <= p <= 2 * table[a][b]:
        return None
    return min(2 * table[a][place] + p, 2 * table[b][place] + 2 * table[a][b] - p)


def takes_middle(table, roads, asked, rows, worth):
    if not is_row(rows, 3):
        return False
    halves = [halves_from(table, roads, rows[0], place) for place in range(len(table))]
    return None not in halves and max(halves) <= worth


def shows_middle(table, roads, asked, rows, worth):
    return is_row(rows, 2) and are_among(rows[0], range(len(table))) and table[rows[0][0]][rows[0][1]] >= worth


def weight(table, wants, place):
    return sum(want * length for want, length in zip(wants, table[place]))


def takes_balance(table, roads, asked, rows, worth):
    return is_row(rows, 1) and rows[0][0] in range(len(table)) and weight(table, asked[0], rows[0][0]) <= worth


def branches_of(table, roads, wants, place):
    found = []
    for other in range(len(table)):
        if has_road(roads, place, other):
            far_side = [end for end in range(len(table)) if table[other][end] < table[place][end]]
            found.append([other, sum(wants[end] for end in far_side)])
    return found


def shows_balance(table, roads, asked, rows, worth):
    if not is_row(rows[:1], 1) or rows[0][0] not in range(len(table)):
        return False
    if rows[1:] != branches_of(table, roads, asked[0], rows[0][0]):
        return False
    return all(2 * row[1] <= sum(asked[0]) for row in rows[1:]) and weight(table, asked[0], rows[0][0]) >= worth


def are_dug(table, houses, sites, rows):
    if len(rows) != 1 or not is_rising(rows[0]) or not are_among(rows[0], sites):
        return False
    return all(any(table[place][site] <= reach for site in rows[0]) for place, reach in houses)


def served(table, houses, site, numbers):
    return [number for number in numbers if table[site][houses[number][0]] <= houses[number][1]]


def are_shy(table, houses, sites, rows):
    if len(rows) != 1 or not is_rising(rows[0]) or not are_among(rows[0], range(len(houses))):
        return False
    return all(len(served(table, houses, site, rows[0])) <= 1 for site in sites)


def are_missed(table, houses, sites, rows):
    if not is_row(rows, 1) or rows[0][0] not in range(len(houses)):
        return False
    return all(served(table, houses, site, rows[0]) == [] for site in sites)


def takes_wells(table, roads, asked, rows, worth):
    return are_dug(table, asked[1:], asked[0], rows) and len(rows[0]) <= worth


def shows_wells(table, roads, asked, rows, worth):
    if worth is None:
        return are_missed(table, asked[1:], asked[0], rows)
    return are_shy(table, asked[1:], asked[0], rows) and len(rows[0]) >= worth


def takes_reach(table, roads, asked, rows, worth):
    if worth < 0:
        return False
    houses = [[home, worth] for home in asked[2]]
    return are_dug(table, houses, asked[1], rows) and len(rows[0]) <= asked[0][0]


def shows_reach(table, roads, asked, rows, worth):
    if worth <= 0:
        return len(rows) == 1 and len(rows[0]) == 0
    houses = [[home, worth - 1] for home in asked[2]]
    if are_missed(table, houses, asked[1], rows):
        return True
    return are_shy(table, houses, asked[1], rows) and len(rows[0]) == asked[0][0] + 1


def are_sent(table, gives, rows):
    places = range(len(table))
    left = list(gives)
    for row in rows:
        if len(row) != 3 or not are_among(row[:2], places) or row[0] == row[1] or row[2] < 1:
            return False
        left[row[0]] -= row[2]
        left[row[1]] += row[2]
    return left == [0] * len(table)


def takes_goods(table, roads, asked, rows, worth):
    return are_sent(table, asked[0], rows) and sum(amount * table[a][b] for a, b, amount in rows) <= worth


def shows_goods(table, roads, asked, rows, worth):
    if not is_row(rows, len(table)):
        return False
    if any(abs(rows[0][a] - rows[0][b]) > length for a, b, length in roads):
        return False
    return sum(-gift * level for gift, level in zip(asked[0], rows[0])) >= worth


def takes_spots(table, roads, asked, rows, worth):
    if len(rows) != 1 or not is_rising(rows[0]) or not are_among(rows[0], range(len(table))):
        return False
    return all(set(yard) & set(rows[0]) for yard in asked) and len(rows[0]) <= worth


def are_apart(yards, rows):
    if len(rows) != 1 or not is_rising(rows[0]) or not are_among(rows[0], range(len(yards))):
        return False
    return lie_apart(yards, rows[0])


def shows_spots(table, roads, asked, rows, worth):
    return are_apart(asked, rows) and len(rows[0]) >= worth


def takes_colours(table, roads, asked, rows, worth):
    if not is_row(rows, len(asked)) or any(number < 0 for number in rows[0]):
        return False
    for a, b in itertools.combinations(range(len(asked)), 2):
        if set(asked[a]) & set(asked[b]) and rows[0][a] == rows[0][b]:
            return False
    return all(number < worth for number in rows[0]) and worth >= 0


def shows_colours(table, roads, asked, rows, worth):
    if not is_row(rows, 1) or rows[0][0] not in range(len(table)):
        return False
    return sum(rows[0][0] in yard for yard in asked) >= worth


def takes_worths(table, roads, asked, rows, worth):
    return are_apart(asked[1:], rows) and sum(asked[0][number] for number in rows[0]) >= worth


def shows_worths(table, roads, asked, rows, worth):
    if not is_row(rows, len(table)) or any(price < 0 for price in rows[0]):
        return False
    for number, yard in enumerate(asked[1:]):
        if sum(price for place, price in enumerate(rows[0]) if place in yard) < asked[0][number]:
            return False
    return sum(rows[0]) <= worth


def steps_of(places):
    """The roads that a list of places goes along, each with its lesser place first."""
    return [tuple(sorted(pair)) for pair in zip(places, places[1:])]


def pairs_of(roads):
    return sorted(tuple(sorted(road[:2])) for road in roads)


def all_steps(roads, rows):
    """The roads that walks go along, in order, or None where one of the rows is no walk."""
    found = []
    for row in rows:
        if len(row) < 2 or len(set(row)) < len(row) or not are_among(steps_of(row), pairs_of(roads)):
            return None
        found += steps_of(row)
    return sorted(found)


def takes_walks(table, roads, asked, rows, worth):
    return all_steps(roads, rows) == pairs_of(roads) and len(rows) <= worth


def takes_sweeps(table, roads, asked, rows, worth):
    steps = all_steps(roads, rows)
    return steps is not None and sorted(set(steps)) == pairs_of(roads) and len(rows) <= worth


def degree(roads, place):
    return sum(place in road[:2] for road in roads)


def shows_walks(table, roads, asked, rows, worth):
    if len(rows) != 1 or not is_rising(rows[0]) or not are_among(rows[0], range(len(table))):
        return False
    return all(degree(roads, place) % 2 == 1 for place in rows[0]) and len(rows[0]) >= 2 * worth - 1


def shows_sweeps(table, roads, asked, rows, worth):
    if len(rows) != 1 or not is_rising(rows[0]) or not are_among(rows[0], range(len(table))):
        return False
    return all(degree(roads, place) == 1 for place in rows[0]) and len(rows[0]) >= 2 * worth - 1


def takes_round(table, roads, asked, rows, worth):
    if len(rows) != 1 or not are_among(rows[0], range(len(table))) or not are_among(asked[0], rows[0]):
        return False
    if rows[0] == []:
        return worth >= 0
    if rows[0][0] != rows[0][-1] or not are_among(steps_of(rows[0]), pairs_of(roads)):
        return False
    return sum(table[a][b] for a, b in steps_of(rows[0])) <= worth


def shows_round(table, roads, asked, rows, worth):
    told = []
    for row in rows:
        if len(row) != 2 or tuple(sorted(row)) not in pairs_of(roads) or tuple(sorted(row)) in told:
            return False
        if len({table[row[0]][place] < table[row[1]][place] for place in asked[0]}) != 2:
            return False
        told.append(tuple(sorted(row)))
    return 2 * sum(table[a][b] for a, b in told) >= worth


TAKES = {"middle": takes_middle, "balance": takes_balance, "wells": takes_wells, "reach": takes_reach,
         "spots": takes_spots, "colours": takes_colours, "worths": takes_worths, "goods": takes_goods,
         "walks": takes_walks, "sweeps": takes_sweeps, "round": takes_round}
SHOWS = {"middle": shows_middle, "balance": shows_balance, "wells": shows_wells, "reach": shows_reach,
         "spots": shows_spots, "colours": shows_colours, "worths": shows_worths, "goods": shows_goods,
         "walks": shows_walks, "sweeps": shows_sweeps, "round": shows_round}


def takes(word, table, roads, asked, rows, worth):
    return worth is not None and TAKES[word](table, roads, asked, rows, worth)


def shows(word, table, roads, asked, rows, worth):
    if worth is None and word != "wells":
        return False
    return SHOWS[word](table, roads, asked, rows, worth)
