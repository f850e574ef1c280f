"""Questions of trees: the base of all kinds, and the kinds of middles, wells and goods."""

from treewells.goods import are_gives, are_levels, are_sendings, cost_of, least_cost, levels, pay, sendings
from treewells.middles import are_wants, balance, branches, ends, is_spot, middle, spot_far, sum_from
from treewells.reaches import best_wells, houses_of, least_reach, why_reach
from treewells.trees import are_places, are_unlike, far, is_place, is_whole, neighbours
from treewells.wells import shy, sites_serving, wells


def are_rising(some):
    return all([lower < upper for lower, upper in zip(some, some[1:])])


# Whether the numbers are of things of a list of so many, rising.
def are_numbers(count, some):
    return are_places(count, some) and are_rising(some)


# The base is asked nothing itself: no rows fit it.
class Question:
    def word(self):
        return ""

    def fits(self, many, roads, asked):
        return False

    def answer(self, many, roads, asked):
        return None

    def paper(self, many, roads, asked):
        return []

    def worth(self, many, roads, asked):
        return None

    # The size of rows that are a right answer, of others None.
    def answer_size(self, many, roads, asked, rows):
        return None

    # The size of rows that are a right paper, of others None.
    def paper_size(self, many, roads, asked, rows):
        return None

    # Whether the rows show that there is no right answer: but for wells there always is one.
    def shows_none(self, many, roads, asked, rows):
        return False

    def takes(self, many, roads, asked, rows, worth):
        # A kind's own answer may be None, which is never taken.
        if worth is None or rows is None:
            return False
        size = self.answer_size(many, roads, asked, rows)
        return size is not None and size <= worth

    def shows(self, many, roads, asked, rows, worth):
        if worth is None:
            return self.shows_none(many, roads, asked, rows)
        size = self.paper_size(many, roads, asked, rows)
        return size is not None and size >= worth


class Middle(Question):
    def word(self):
        return "middle"

    def fits(self, many, roads, asked):
        return len(asked) == 0

    def answer(self, many, roads, asked):
        return [middle(many, roads)]

    def paper(self, many, roads, asked):
        return [list(ends(many, roads))]

    def worth(self, many, roads, asked):
        pair = ends(many, roads)
        return far(many, roads, pair[0], pair[1])

    def answer_size(self, many, roads, asked, rows):
        if len(rows) != 1 or not is_spot(neighbours(many, roads), rows[0]):
            return None
        return max([spot_far(many, roads, rows[0], place) for place in range(many)])

    def paper_size(self, many, roads, asked, rows):
        if len(rows) != 1 or len(rows[0]) != 2 or not are_places(many, rows[0]):
            return None
        return far(many, roads, rows[0][0], rows[0][1])


class Balance(Question):
    def word(self):
        return "balance"

    def fits(self, many, roads, asked):
        return len(asked) == 1 and are_wants(many, asked[0])

    def answer(self, many, roads, asked):
        return [[balance(many, roads, asked[0])]]

    def paper(self, many, roads, asked):
        place = balance(many, roads, asked[0])
        return [[place]] + branches(many, roads, asked[0], place)

    def worth(self, many, roads, asked):
        return sum_from(many, roads, asked[0], balance(many, roads, asked[0]))

    def answer_size(self, many, roads, asked, rows):
        if len(rows) != 1 or len(rows[0]) != 1 or not are_places(many, rows[0]):
            return None
        return sum_from(many, roads, asked[0], rows[0][0])

    def paper_size(self, many, roads, asked, rows):
        size = self.answer_size(many, roads, asked, rows[:1])
        if size is None or rows[1:] != branches(many, roads, asked[0], rows[0][0]):
            return None
        if any([2 * row[1] > sum(asked[0]) for row in rows[1:]]):
            return None
        return size


def are_sites(many, some):
    return are_places(many, some) and are_unlike(some)


def is_house(many, row):
    return len(row) == 2 and is_place(many, row[0]) and is_whole(row[1]) and row[1] >= 0


# What the kinds share that ask for wells. It is asked nothing itself either.
class Digging(Question):
    # Whether the rows are one list of some of the sites, rising, that serve each house.
    def are_wells(self, many, roads, houses, sites, rows):
        if len(rows) != 1 or not are_rising(rows[0]) or not all([site in sites for site in rows[0]]):
            return False
        near = neighbours(many, roads)
        return all([len(sites_serving(near, house, rows[0])) > 0 for house in houses])

    # Whether the rows are one list of numbers of houses, rising, of which no site serves two.
    def are_shy(self, many, roads, houses, sites, rows):
        if len(rows) != 1 or not are_numbers(len(houses), rows[0]):
            return False
        near = neighbours(many, roads)
        serving = []
        for number in rows[0]:
            serving.extend(sites_serving(near, houses[number], sites))
        return are_unlike(serving)

    # Whether the rows are one list of the number of one house that no site serves.
    def are_missed(self, many, roads, houses, sites, rows):
        if len(rows) != 1 or len(rows[0]) != 1 or not are_numbers(len(houses), rows[0]):
            return False
        return len(sites_serving(neighbours(many, roads), houses[rows[0][0]], sites)) == 0


class Wells(Digging):
    def word(self):
        return "wells"

    def fits(self, many, roads, asked):
        if len(asked) == 0 or not are_sites(many, asked[0]):
            return False
        return all([is_house(many, row) for row in asked[1:]])

    def answer(self, many, roads, asked):
        dug = wells(many, roads, asked[1:], asked[0])
        return None if dug is None else [dug]

    def paper(self, many, roads, asked):
        return [shy(many, roads, asked[1:], asked[0])]

    def worth(self, many, roads, asked):
        dug = wells(many, roads, asked[1:], asked[0])
        return None if dug is None else len(dug)

    def answer_size(self, many, roads, asked, rows):
        return len(rows[0]) if self.are_wells(many, roads, asked[1:], asked[0], rows) else None

    def paper_size(self, many, roads, asked, rows):
        return len(rows[0]) if self.are_shy(many, roads, asked[1:], asked[0], rows) else None

    def shows_none(self, many, roads, asked, rows):
        return self.are_missed(many, roads, asked[1:], asked[0], rows)


class Reach(Digging):
    def word(self):
        return "reach"

    def fits(self, many, roads, asked):
        if len(asked) != 3 or len(asked[0]) != 1 or not is_whole(asked[0][0]) or asked[0][0] < 1:
            return False
        return len(asked[1]) > 0 and are_sites(many, asked[1]) and are_places(many, asked[2])

    def answer(self, many, roads, asked):
        return [best_wells(many, roads, asked[2], asked[1], asked[0][0])]

    def paper(self, many, roads, asked):
        return [why_reach(many, roads, asked[2], asked[1], asked[0][0])]

    def worth(self, many, roads, asked):
        return least_reach(many, roads, asked[2], asked[1], asked[0][0])

    def takes(self, many, roads, asked, rows, worth):
        if worth is None or worth < 0:
            return False
        houses = houses_of(asked[2], worth)
        return self.are_wells(many, roads, houses, asked[1], rows) and len(rows[0]) <= asked[0][0]

    def shows(self, many, roads, asked, rows, worth):
        if worth is None:
            return False
        if worth < 1:
            return rows == [[]]
        houses = houses_of(asked[2], worth - 1)
        if self.are_missed(many, roads, houses, asked[1], rows):
            return True
        return self.are_shy(many, roads, houses, asked[1], rows) and len(rows[0]) == asked[0][0] + 1


class Goods(Question):
    def word(self):
        return "goods"

    def fits(self, many, roads, asked):
        return len(asked) == 1 and are_gives(many, asked[0])

    def answer(self, many, roads, asked):
        return sendings(many, roads, asked[0])

    def paper(self, many, roads, asked):
        return [levels(many, roads, asked[0])]

    def worth(self, many, roads, asked):
        return least_cost(many, roads, asked[0])

    def answer_size(self, many, roads, asked, rows):
        if not are_sendings(many, roads, asked[0], rows):
            return None
        return cost_of(many, roads, rows)

    def paper_size(self, many, roads, asked, rows):
        if len(rows) != 1 or not are_levels(many, roads, rows[0]):
            return None
        return pay(asked[0], rows[0])
