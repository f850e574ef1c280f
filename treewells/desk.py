"""The desk: trees that are kept by names, and rows of text that tell and ask of them."""

from treewells.errors import NoName, NoQuestion, NoRoad, NoRow
from treewells.kinds import kind_of
from treewells.texts import read_number, read_rows, read_tree, shown_rows, shown_tree
from treewells.trees import check_places, check_tree, far, leaves, way

LETTERS = "abcdefghijklmnopqrstuvwxyz"
MOST_LETTERS = 8

# By the first word of a row, how many words it has: just so many, or so many or more.
JUST = {"grow": 4, "cut": 3, "drop": 2, "names": 1, "show": 2, "far": 4, "way": 4}
LEAST = {"tree": 3, "answer": 4, "paper": 4, "worth": 4, "takes": 7, "shows": 7}

# An = stands no farther to the left, as one word at least is of the text ahead of it.
FIRST_PARTING = 5


def is_row(words):
    if words[0] in JUST:
        return len(words) == JUST[words[0]]
    if words[0] not in LEAST or len(words) < LEAST[words[0]]:
        return False
    return words[0] not in ("takes", "shows") or "=" in words[FIRST_PARTING:-1]


def is_name(word):
    return 1 <= len(word) <= MOST_LETTERS and all([sign in LETTERS for sign in word])


def grown(tree, place, length):
    check_places(tree[0], [place])
    roads = tree[1] + [[place, tree[0], length]]
    # What has grown is no tree just where the length is below 1 or there are too many places.
    check_tree(tree[0] + 1, roads)
    return (tree[0] + 1, roads)


def fallen(place, leaf):
    return place - 1 if place > leaf else place


def cut_at(tree, leaf):
    check_places(tree[0], [leaf])
    if leaf not in leaves(tree[0], tree[1]):
        raise NoRoad("a tree is cut at a leaf alone")
    left = [row for row in tree[1] if row[0] != leaf and row[1] != leaf]
    return (tree[0] - 1, [[fallen(row[0], leaf), fallen(row[1], leaf), row[2]] for row in left])


def check_question(tree, kind, asked):
    if not kind.fits(tree[0], tree[1], asked):
        raise NoQuestion("these rows ask no question of this kind")


def told_way(tree, words):
    a = read_number(words[2])
    b = read_number(words[3])
    if words[0] == "far":
        return str(far(tree[0], tree[1], a, b))
    return shown_rows([way(tree[0], tree[1], a, b)])


def told_answer(tree, words):
    kind = kind_of(words[2])
    asked = read_rows(" ".join(words[3:]))
    check_question(tree, kind, asked)
    if words[0] == "worth":
        worth = kind.worth(tree[0], tree[1], asked)
        return "none" if worth is None else str(worth)
    if words[0] == "paper":
        return shown_rows(kind.paper(tree[0], tree[1], asked))
    rows = kind.answer(tree[0], tree[1], asked)
    return "none" if rows is None else shown_rows(rows)


def looked_at(tree, words):
    kind = kind_of(words[2])
    worth = None if words[3] == "none" else read_number(words[3])
    parting = FIRST_PARTING + words[FIRST_PARTING:].index("=")
    asked = read_rows(" ".join(words[4:parting]))
    rows = read_rows(" ".join(words[parting + 1:]))
    check_question(tree, kind, asked)
    if words[0] == "takes":
        right = kind.takes(tree[0], tree[1], asked, rows, worth)
    else:
        right = kind.shows(tree[0], tree[1], asked, rows, worth)
    return "yes" if right else "no"


def told_of(tree, words):
    if words[0] == "show":
        return shown_tree(tree[0], tree[1])
    if words[0] in ("far", "way"):
        return told_way(tree, words)
    if words[0] in ("takes", "shows"):
        return looked_at(tree, words)
    return told_answer(tree, words)


class Desk:
    # By its name each tree, as a pair of its number of places and its roads.
    def __init__(self):
        self.kept = {}

    def put(self, name, tree):
        self.kept[name] = tree
        return "ok"

    def say(self, row):
        words = row.split(" ")
        if not is_row(words):
            raise NoRow("this is no row of the desk")
        if words[0] == "names":
            return " ".join(sorted(self.kept))
        name = words[1]
        if not is_name(name):
            raise NoName("a name is one to eight small letters")
        if words[0] == "tree":
            return self.put(name, read_tree(" ".join(words[2:])))
        if name not in self.kept:
            raise NoName("no tree stands by this name")
        if words[0] == "grow":
            return self.put(name, grown(self.kept[name], read_number(words[2]), read_number(words[3])))
        if words[0] == "cut":
            return self.put(name, cut_at(self.kept[name], read_number(words[2])))
        if words[0] == "drop":
            self.kept.pop(name)
            return "ok"
        return told_of(self.kept[name], words)
