"""A desk by definition, which parts rows by patterns, and shares no reading of texts with the program.

Of a row that may be answered in several ways it tells a judge of what was answered.
"""

import re

import judges
from samples import between, fars
from treewells.errors import NoKind, NoName, NoPlace, NoQuestion, NoRoad, NoRow, NoText, NoTree
from treewells.kinds import kinds
from treewells.trees import is_tree

NUMBER = r"(?:0|-?[1-9][0-9]{0,59})"
ROW = rf"(?:\.|{NUMBER}(?: {NUMBER})*)"
ROWS = rf"-|{ROW}(?: / {ROW})*"
WORD = "([^ ]*)"
TEXT = "([^ ]*(?: [^ ]*)*)"

FORMS = [
    f"(tree) {WORD} {TEXT}", f"(grow) {WORD} {WORD} {WORD}", f"(cut) {WORD} {WORD}", f"(drop) {WORD}", "(names)",
    f"(show) {WORD}", f"(far|way) {WORD} {WORD} {WORD}", f"(answer|paper|worth) {WORD} {WORD} {TEXT}",
    # Of several words = the first one parts that can.
    f"(takes|shows) {WORD} {WORD} {WORD} ([^ ]*(?: [^ ]*)*?) = {TEXT}",
]


def read(text):
    """The rows of a text, or None where it has another form."""
    if not re.fullmatch(ROWS, text):
        return None
    return [] if text == "-" else [[int(word) for word in re.findall("-?[0-9]+", part)] for part in text.split("/")]


def shown(rows):
    return " / ".join(" ".join(map(str, row)) or "." for row in rows) or "-"


def rows_of(text):
    rows = read(text)
    if rows is None:
        raise NoText
    return rows


def number_of(text):
    if not re.fullmatch(NUMBER, text):
        raise NoText
    return int(text)


def kind_by(word):
    for kind in kinds():
        if kind.word() == word:
            return kind
    raise NoKind


class SlowDesk:
    def __init__(self):
        self.trees = {}

    def say(self, row):
        for form in FORMS:
            found = re.fullmatch(form, row)
            if found:
                return getattr(self, "say_" + found[1])(*found.groups()[1:])
        raise NoRow

    def tree_by(self, name):
        if name not in self.trees:
            raise NoName
        return self.trees[name]

    def say_tree(self, name, text):
        if not re.fullmatch("[a-z]{1,8}", name):
            raise NoName
        rows = rows_of(text)
        if not rows or len(rows[0]) != 1 or not is_tree(rows[0][0], rows[1:]):
            raise NoTree
        self.trees[name] = (rows[0][0], rows[1:])
        return "ok"

    def say_grow(self, name, place, length):
        many, roads = self.tree_by(name)
        place, length = number_of(place), number_of(length)
        if not 0 <= place < many:
            raise NoPlace
        if length < 1 or many == 12:
            raise NoTree
        self.trees[name] = (many + 1, roads + [[place, many, length]])
        return "ok"

    def say_cut(self, name, leaf):
        many, roads = self.tree_by(name)
        leaf = number_of(leaf)
        if not 0 <= leaf < many:
            raise NoPlace
        if judges.degree(roads, leaf) != 1:
            raise NoRoad
        left = [place for place in range(many) if place != leaf]
        self.trees[name] = (many - 1, [[left.index(a), left.index(b), length] for a, b, length in roads
                                       if leaf not in (a, b)])
        return "ok"

    def say_drop(self, name):
        self.tree_by(name)
        del self.trees[name]
        return "ok"

    def say_names(self):
        return " ".join(sorted(self.trees))

    def say_show(self, name):
        many, roads = self.tree_by(name)
        return shown([[many]] + roads)

    def two_places(self, name, a, b):
        many, roads = self.tree_by(name)
        a, b = number_of(a), number_of(b)
        if not 0 <= a < many or not 0 <= b < many:
            raise NoPlace
        return fars(many, roads), a, b

    def say_far(self, name, a, b):
        table, a, b = self.two_places(name, a, b)
        return str(table[a][b])

    def say_way(self, name, a, b):
        return shown([between(*self.two_places(name, a, b))])

    def asked_by(self, name, kind, text):
        tree, kind, asked = self.tree_by(name), kind_by(kind), rows_of(text)
        if not kind.fits(*tree, asked):
            raise NoQuestion
        return tree, kind, asked

    def say_worth(self, name, kind, text):
        tree, kind, asked = self.asked_by(name, kind, text)
        worth = kind.worth(*tree, asked)
        return "none" if worth is None else str(worth)

    def say_answer(self, name, kind, text):
        (many, roads), kind, asked = self.asked_by(name, kind, text)
        worth = kind.worth(many, roads, asked)
        if worth is None:
            return "none"
        return lambda told: judges.takes(kind.word(), fars(many, roads), roads, asked, long_rows(told), worth)

    def say_paper(self, name, kind, text):
        (many, roads), kind, asked = self.asked_by(name, kind, text)
        worth = kind.worth(many, roads, asked)
        return lambda told: judges.shows(kind.word(), fars(many, roads), roads, asked, long_rows(told), worth)

    def looked_at(self, judge, name, kind, worth, text, rows):
        (many, roads), kind = self.tree_by(name), kind_by(kind)
        worth = None if worth == "none" else number_of(worth)
        asked, rows = rows_of(text), rows_of(rows)
        if not kind.fits(many, roads, asked):
            raise NoQuestion
        return "yes" if judge(kind.word(), fars(many, roads), roads, asked, rows, worth) else "no"

    def say_takes(self, *told):
        return self.looked_at(judges.takes, *told)

    def say_shows(self, *told):
        return self.looked_at(judges.shows, *told)


def long_rows(text):
    """The rows of a text that was told, whose numbers may be longer than those that are read."""
    return [] if text == "-" else [[int(word) for word in part.split(" ") if word != "."] for part in text.split(" / ")]
