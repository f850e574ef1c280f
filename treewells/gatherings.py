"""Questions of yards, of walks over all roads, and of rounds by some places."""

from treewells.questions import Question, are_numbers, are_rising
from treewells.rounds import length_of, needed, round_by, sweeps, walks
from treewells.trees import are_places, are_unlike, is_lump, is_whole, leaves, neighbours, odd_places, way_between
from treewells.worths import are_worths, best_yards, prices
from treewells.yards import apart, colours, crowd, spots


# A number from 0 on for each of so many things.
def are_counts(count, some):
    return len(some) == count and all([is_whole(value) and value >= 0 for value in some])


# What the kinds share that are asked of yards. It is asked nothing itself.
class Yards(Question):
    def are_yards(self, many, roads, rows):
        return all([is_lump(many, roads, row) for row in rows])

    # Whether the rows are one list of numbers of yards, rising, each two of them apart.
    def are_apart(self, yards, rows):
        if len(rows) != 1 or not are_numbers(len(yards), rows[0]):
            return False
        held = []
        for number in rows[0]:
            held.extend(yards[number])
        # No yard has a place twice: where two are alike, they are of two yards.
        return are_unlike(held)


class Spots(Yards):
    def word(self):
        return "spots"

    def fits(self, many, roads, asked):
        return self.are_yards(many, roads, asked)

    def answer(self, many, roads, asked):
        return [spots(many, roads, asked)]

    def paper(self, many, roads, asked):
        return [apart(many, roads, asked)]

    def worth(self, many, roads, asked):
        return len(spots(many, roads, asked))

    def answer_size(self, many, roads, asked, rows):
        if len(rows) != 1 or not are_numbers(many, rows[0]):
            return None
        met = all([any([place in yard for place in rows[0]]) for yard in asked])
        return len(rows[0]) if met else None

    def paper_size(self, many, roads, asked, rows):
        return len(rows[0]) if self.are_apart(asked, rows) else None


# Colours that are left out below the greatest one count too.
def count_colours(numbers):
    return max(numbers, default=-1) + 1


class Colours(Yards):
    def word(self):
        return "colours"

    def fits(self, many, roads, asked):
        return self.are_yards(many, roads, asked)

    def answer(self, many, roads, asked):
        return [colours(many, roads, asked)]

    def paper(self, many, roads, asked):
        return [[crowd(many, roads, asked)]]

    def worth(self, many, roads, asked):
        return count_colours(colours(many, roads, asked))

    def answer_size(self, many, roads, asked, rows):
        if len(rows) != 1 or not are_counts(len(asked), rows[0]):
            return None
        for place in range(many):
            if not are_unlike([number for number, yard in zip(rows[0], asked) if place in yard]):
                return None
        return count_colours(rows[0])

    def paper_size(self, many, roads, asked, rows):
        if len(rows) != 1 or len(rows[0]) != 1 or not are_places(many, rows[0]):
            return None
        return len([yard for yard in asked if rows[0][0] in yard])


class Worths(Yards):
    def word(self):
        return "worths"

    def fits(self, many, roads, asked):
        return len(asked) > 0 and are_worths(asked[1:], asked[0]) and self.are_yards(many, roads, asked[1:])

    def answer(self, many, roads, asked):
        return [best_yards(many, roads, asked[1:], asked[0])]

    def paper(self, many, roads, asked):
        return [prices(many, roads, asked[1:], asked[0])]

    def worth(self, many, roads, asked):
        return sum(prices(many, roads, asked[1:], asked[0]))

    def answer_size(self, many, roads, asked, rows):
        if not self.are_apart(asked[1:], rows):
            return None
        return sum([asked[0][number] for number in rows[0]])

    def paper_size(self, many, roads, asked, rows):
        if len(rows) != 1 or not are_counts(many, rows[0]):
            return None
        for yard, least in zip(asked[1:], asked[0]):
            if sum([rows[0][place] for place in yard]) < least:
                return None
        return sum(rows[0])

    # Of this kind alone more is better: so answer and paper are held against the worth the other way.
    def takes(self, many, roads, asked, rows, worth):
        size = self.answer_size(many, roads, asked, rows)
        return worth is not None and size is not None and size >= worth

    def shows(self, many, roads, asked, rows, worth):
        size = self.paper_size(many, roads, asked, rows)
        return worth is not None and size is not None and size <= worth


# What the kinds share that sweep all roads. It is asked nothing itself.
class Sweeping(Question):
    # For each road on how many of the rows it lies; None where a row is no walk.
    def times_swept(self, many, roads, rows):
        near = neighbours(many, roads)
        for row in rows:
            if len(row) < 2 or not are_places(many, row) or row != way_between(near, row[0], row[-1]):
                return None
        # A way that has both places of a road goes along it, as no other way leads from one to the other.
        return [len([row for row in rows if road[0] in row and road[1] in row]) for road in roads]

    # How many walks the rows show to be needed, where they are one list of some of the stops, rising:
    # a walk has two ends, so each one has to do with two stops at most.
    def half_of(self, stops, rows):
        if len(rows) != 1 or not are_rising(rows[0]) or not all([place in stops for place in rows[0]]):
            return None
        return (len(rows[0]) + 1) // 2


class Walks(Sweeping):
    def word(self):
        return "walks"

    def fits(self, many, roads, asked):
        return len(asked) == 0

    def answer(self, many, roads, asked):
        return walks(many, roads)

    def paper(self, many, roads, asked):
        return [odd_places(many, roads)]

    def worth(self, many, roads, asked):
        return len(walks(many, roads))

    def answer_size(self, many, roads, asked, rows):
        times = self.times_swept(many, roads, rows)
        if times is None or not all([count == 1 for count in times]):
            return None
        return len(rows)

    def paper_size(self, many, roads, asked, rows):
        return self.half_of(odd_places(many, roads), rows)


class Sweeps(Sweeping):
    def word(self):
        return "sweeps"

    def fits(self, many, roads, asked):
        return len(asked) == 0

    def answer(self, many, roads, asked):
        return sweeps(many, roads)

    def paper(self, many, roads, asked):
        return [leaves(many, roads)]

    def worth(self, many, roads, asked):
        return len(sweeps(many, roads))

    def answer_size(self, many, roads, asked, rows):
        times = self.times_swept(many, roads, rows)
        if times is None or not all([count >= 1 for count in times]):
            return None
        return len(rows)

    def paper_size(self, many, roads, asked, rows):
        return self.half_of(leaves(many, roads), rows)


class Round(Question):
    def word(self):
        return "round"

    def fits(self, many, roads, asked):
        return len(asked) == 1 and are_places(many, asked[0])

    def answer(self, many, roads, asked):
        return [round_by(many, roads, asked[0])]

    def paper(self, many, roads, asked):
        return [row[:2] for row in needed(many, roads, asked[0])]

    def worth(self, many, roads, asked):
        return length_of(many, roads, round_by(many, roads, asked[0]))

    # Whether the places make a round, wherever it goes by.
    def is_closed(self, many, roads, places):
        if not are_places(many, places):
            return False
        near = neighbours(many, roads)
        joined = all([there in near[here] for here, there in zip(places, places[1:])])
        # The list of none is a round too, where it has all that it has to come by.
        return joined and places[:1] == places[-1:]

    def answer_size(self, many, roads, asked, rows):
        if len(rows) != 1 or not self.is_closed(many, roads, rows[0]):
            return None
        if not all([place in rows[0] for place in asked[0]]):
            return None
        return length_of(many, roads, rows[0])

    def paper_size(self, many, roads, asked, rows):
        lengths = {}
        for road in needed(many, roads, asked[0]):
            lengths[(min(road[:2]), max(road[:2]))] = road[2]
        pairs = [tuple(sorted(row)) for row in rows]
        if not are_unlike(pairs) or not all([pair in lengths for pair in pairs]):
            return None
        return 2 * sum([lengths[pair] for pair in pairs])
