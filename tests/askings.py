"""Questions of all eleven kinds, rows that may be answers and papers of them, and how these are looked at."""

import random

import judges
from samples import GREAT, HUGE, between, chance_gives, chance_houses, chance_lump, chance_sites, fars, subsets

WORDS = ("middle", "balance", "wells", "reach", "spots", "colours", "worths", "goods", "walks", "sweeps", "round")


def chance_asked(chance, word, many, roads, table):
    """Rows that ask a question of this kind."""
    if word in ("middle", "walks", "sweeps"):
        return []
    if word == "balance":
        return [[chance.randint(0, chance.choice((0, 1, 5, GREAT))) for _ in range(many)]]
    if word == "wells":
        return [chance_sites(chance, many)] + chance_houses(chance, table, 7)
    if word == "reach":
        homes = [chance.randrange(many) for _ in range(chance.randint(0, 8))]
        return [[chance.choice((1, 1, 2, 3, HUGE))], chance_sites(chance, many, 1), homes]
    if word == "goods":
        return [chance_gives(chance, many, chance.choice((0, 1, 9, GREAT)))]
    if word == "round":
        return [[chance.randrange(many) for _ in range(chance.randint(0, 6))]]
    yards = [chance_lump(chance, many, roads) for _ in range(chance.randint(0, 7))]
    return yards if word != "worths" else [[chance.randint(0, chance.choice((0, 1, 5, GREAT))) for _ in yards]] + yards


def spoilt_rows(many, rows):
    """Rows that are like these but in one thing."""
    found = [[], [[]], rows + [[]], [[]] + rows, rows * 2, rows[1:], rows[:-1], rows[::-1], rows + [[0]], rows[:1]]
    for number, row in enumerate(rows):
        spoilt = [row[::-1], row + [0], row[:-1], row[1:], [], row + row[-1:], row[:1] + row, row * 2, sorted(row)]
        for place, value in enumerate(row):
            others = (value - 1, value + 1, -1, -value, many, value - many, HUGE)
            spoilt += [row[:place] + [other] + row[place + 1:] for other in others]
            spoilt.append(row[:place] + row[place + 1:])
        found += [rows[:number] + [other] + rows[number + 1:] for other in spoilt]
        found += [rows[:number] + rows[number + 1:], rows[:number] + [row] + rows[number:]]
    return found


def some_of(chance, things, times):
    """Some lists of some of the things, rising."""
    return [sorted(chance.sample(things, chance.randint(0, len(things)))) for _ in range(times)]


def chance_answers(chance, word, many, roads, asked):
    """Rows that may be answers, right or wrong ones."""
    if word == "middle":
        spots = [[a, b, chance.choice((0, length, 2 * length, chance.randint(0, 2 * length)))]
                 for road in roads for a, b, length in (road, [road[1], road[0], road[2]])]
        return [[spot] for spot in spots + [[a, a, p] for a in range(many) for p in (0, 1)]]
    if word == "balance":
        return [[[place]] for place in range(-1, many + 1)]
    if word in ("wells", "reach"):
        sites = asked[word == "reach"]
        return [[row] for row in some_of(chance, sites, 6) + [sites, sorted(sites)]]
    if word == "goods":
        return [chance_sent(chance, many, asked[0]) for _ in range(4)]
    if word == "spots":
        return [[row] for row in some_of(chance, range(many), 8) + [list(range(many)), list(range(many + 1))]]
    if word == "colours":
        count = len(asked)
        some = [[chance.randrange(count + 1) for _ in asked] for _ in range(4)]
        return [[row] for row in some + [list(range(count)), list(range(count))[::-1], [7] * count, [0] * (count + 1)]]
    if word == "worths":
        count = len(asked) - 1
        return [[row] for row in some_of(chance, range(count), 6) + [[number] for number in range(-1, count + 1)]]
    if word in ("walks", "sweeps"):
        return [chance_walks(chance, many, roads) for _ in range(6)]
    return [[chance_round(chance, many, roads, asked[0])] for _ in range(6)]


def chance_sent(chance, many, gives):
    """Sendings by way of one place, and some goods that go to and fro."""
    stop = chance.randrange(many)
    rows = [[place, stop, gift] if gift > 0 else [stop, place, -gift]
            for place, gift in enumerate(gives) if gift != 0 and place != stop]
    if many > 1 and chance.random() < 0.5:
        a, b = chance.sample(range(many), 2)
        rows += [[a, b, 2], [b, a, 1], [b, a, 1]]
    return rows


def chance_walks(chance, many, roads):
    """Walks of any two ends: those that go along a new road, or along new roads alone, and perhaps one more."""
    table = fars(many, roads)
    pairs = [(a, b) for a in range(many) for b in range(many) if a != b]
    alone, left, rows = chance.random() < 0.5, judges.pairs_of(roads), []
    for a, b in chance.sample(pairs, len(pairs)):
        row = between(table, a, b)
        fresh = [step in left for step in judges.steps_of(row)]
        if all(fresh) or any(fresh) and not alone:
            rows.append(row)
            left = [step for step in left if step not in judges.steps_of(row)]
    if pairs and chance.random() < 0.3:
        rows.append(between(table, *chance.choice(pairs)))
    return rows


def chance_round(chance, many, roads, some):
    """A round by the places in any order, from any place, and perhaps not by one of them."""
    table = fars(many, roads)
    stops = chance.sample(some, len(some)) + [chance.randrange(many) for _ in range(chance.choice((0, 0, 1)))]
    stops = stops[chance.choice((0, 0, 0, 1)):]
    places = stops[:1]
    for stop in stops[1:] + stops[:1]:
        places += between(table, places[-1], stop)[1:]
    return places


def chance_papers(chance, word, many, roads, asked, table):
    """Rows that may be papers, right or wrong ones."""
    if word == "middle":
        return [[[a, b]] for a in range(-1, many + 1) for b in chance.sample(range(many), (many + 2) // 3)]
    if word == "balance":
        return [[[place]] + judges.branches_of(table, roads, asked[0], place) for place in range(many)]
    if word in ("wells", "reach", "spots"):
        count = len(asked[2]) if word == "reach" else len(asked) - (word == "wells")
        some = some_of(chance, range(count), 5) + [[number] for number in range(count + 1)]
        return [[row] for row in some + subsets(range(count))[-25:]]
    if word == "goods":
        start, sign, base = chance.randrange(many), chance.choice((1, -1)), chance.choice((0, HUGE, -HUGE))
        return [[[base + sign * length for length in table[start]]], [[0] * many], [[base] * many]]
    if word == "colours":
        return [[[place]] for place in range(-1, many + 1)]
    if word == "worths":
        most = max(asked[0], default=0)
        some = [[chance.randint(0, most) for _ in range(many)] for _ in range(4)]
        return [[row] for row in some + [[most] * many, [0] * many, [most] + [0] * (many - 1)]]
    if word in ("walks", "sweeps"):
        ends = [place for place in range(many) if judges.degree(roads, place) in (1, 3)]
        return [[row] for row in some_of(chance, range(many), 4) + some_of(chance, ends, 4) + [ends]]
    some = [chance.sample(roads, chance.randint(0, len(roads))) for _ in range(6)]
    return [[chance.sample(road[:2], 2) for road in rows] for rows in some + [roads, roads + roads[:1]]]


def near_by(told):
    """Worths at and about the one that is told."""
    return [None, 0, 1, -1, HUGE, -HUGE] + ([] if told is None else [told - 1, told, told + 1, told // 2, 2 * told])


class Looks:
    """What a test of kinds looks at: mixed into its class."""

    def check_told(self, kind, many, roads, table, asked):
        """Answer and paper have the worth that is told, and by the same worth are right by definition."""
        case = (kind.word(), many, roads, asked)
        self.assertIs(kind.fits(many, roads, asked), True, case)
        rows, paper = kind.answer(many, roads, asked), kind.paper(many, roads, asked)
        worth = kind.worth(many, roads, asked)
        self.check_rows(paper)
        self.assertTrue(judges.shows(kind.word(), table, roads, asked, paper, worth), case)
        self.assertIs(kind.shows(many, roads, asked, paper, worth), True, case)
        self.assertEqual(worth is None, rows is None, case)
        if worth is not None:
            self.check_rows(rows)
            self.assertIsInstance(worth, int, case)
            # To ask for more is harder for worths alone, where more is better.
            more = -1 if kind.word() == "worths" else 1
            self.assertTrue(judges.takes(kind.word(), table, roads, asked, rows, worth), case)
            self.assertIs(kind.takes(many, roads, asked, rows, worth), True, case)
            self.assertIs(kind.takes(many, roads, asked, rows, worth + more), True, case)
            self.assertIs(kind.takes(many, roads, asked, rows, worth - more), False, case)
            self.assertIs(kind.shows(many, roads, asked, paper, worth + more), False, case)
            self.assertIs(kind.shows(many, roads, asked, paper, None), False, case)
        self.assertIs(kind.takes(many, roads, asked, rows, None), False, case)
        return worth

    def check_rows(self, rows):
        self.assertIsInstance(rows, list)
        for row in rows:
            self.assertIsInstance(row, list)
            self.assertTrue(all(isinstance(value, int) and not isinstance(value, bool) for value in row), rows)

    def check_looked_at(self, kind, many, roads, table, asked, answers, papers):
        """Each answer and paper is taken just where it is right by definition."""
        worths = near_by(kind.worth(many, roads, asked))
        for rows in answers:
            for worth in worths:
                right = judges.takes(kind.word(), table, roads, asked, rows, worth)
                told = kind.takes(many, roads, asked, rows, worth)
                self.assertIs(told, right, (kind.word(), many, roads, asked, rows, worth))
        for rows in papers:
            for worth in worths:
                right = judges.shows(kind.word(), table, roads, asked, rows, worth)
                told = kind.shows(many, roads, asked, rows, worth)
                self.assertIs(told, right, (kind.word(), many, roads, asked, rows, worth))

    def check_fits(self, kind, tree, right, wrong):
        for asked in right:
            self.assertIs(kind.fits(*tree, asked), True, (tree, asked))
        for asked in wrong:
            self.assertIs(kind.fits(*tree, asked), False, (tree, asked))

    def check_many_told(self, kinds, trees, times, seed):
        chance = random.Random(seed)
        for many, roads in trees:
            table = fars(many, roads)
            for kind in kinds:
                for _ in range(times):
                    self.check_told(kind, many, roads, table, chance_asked(chance, kind.word(), many, roads, table))

    def check_many_spoilt(self, kinds, trees, seed):
        chance = random.Random(seed)
        for many, roads in trees:
            table = fars(many, roads)
            for kind in kinds:
                asked = chance_asked(chance, kind.word(), many, roads, table)
                rows, paper = kind.answer(many, roads, asked) or [], kind.paper(many, roads, asked)
                self.check_looked_at(kind, many, roads, table, asked, spoilt_rows(many, rows), spoilt_rows(many, paper))

    def check_many_others(self, kinds, trees, seed):
        chance = random.Random(seed)
        for many, roads in trees:
            table = fars(many, roads)
            for kind in kinds:
                asked = chance_asked(chance, kind.word(), many, roads, table)
                answers = chance_answers(chance, kind.word(), many, roads, asked)
                papers = chance_papers(chance, kind.word(), many, roads, asked, table)
                self.check_looked_at(kind, many, roads, table, asked, answers, papers)

    def least_taken(self, word, table, roads, asked, answers):
        """The least worth with which an answer is taken, by trying worths from 0 on, or None."""
        for worth in range(200):
            if any(judges.takes(word, table, roads, asked, rows, worth) for rows in answers):
                return worth
        return None
