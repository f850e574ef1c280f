import itertools
import random
import unittest

from askings import WORDS, chance_answers, chance_asked, chance_papers, near_by, spoilt_rows
from samples import FORK, GREAT, HUGE, NO_TREES, all_trees, fars, great_trees
from slow_desk import SlowDesk, read, shown
from treewells.desk import Desk
from treewells.errors import NoKind, NoName, NoPlace, NoQuestion, NoRoad, NoRow, NoText, NoTree, TreeError
from treewells.kinds import kind_of
from treewells.texts import shown_rows, shown_tree

FORK_TEXT = "4 / 0 1 5 / 2 1 2 / 1 3 7"
SIXTY = "9" * 60
NAMES = ("a", "z", "ab", "zz", "tree", "names", "takes", "none", "abcdefgh", "zzzzzzzz", "ok")
NO_NAMES = ("", "A", "aB", "a1", "1", "a-b", "abcdefghi", "a" * 100, "-", ".", "/", "=", "a.", "_", "~", "\na")
NO_NUMBERS = ("", "00", "01", "-0", "+1", "1.", ".", "-", "/", "=", "a", "none", "1" + SIXTY, "-1" + SIXTY, "1/2",
              "--1")

SORTS = ("tree", "grow", "grow", "cut", "drop", "names", "show", "far", "way", "answer", "paper", "worth", "takes",
         "takes", "shows", "shows")

# One row of each sort that is right where FORK stands by the name a.
RIGHT = [
    f"tree a {FORK_TEXT}", "grow a 0 1", "cut a 0", "drop a", "names", "show a", "far a 0 3", "way a 0 3",
    "answer a middle -", "paper a wells 0 / 1 9", "worth a round 0 3", "takes a walks 2 - = 0 1 2 / 1 3",
    "shows a round 18 3 2 = 2 1 / 1 3",
]

# Rows of the right first word that are none by how many words there are.
NO_ROWS = [
    "", " ", "  ", "tree", "tree a", "tree ", "grow", "grow a", "grow a 0", "grow a 0 1 ", "grow a 0 1 1",
    "grow  a 0 1", "cut", "cut a", "cut a 0 ", "cut a 0 0", "cut  a 0", "drop", "drop a ", "drop a b", "drop  a",
    "names ", "names a", " names", "show", "show a ", "show a b", " show a", "far a 0", "far a 0 1 ", "far a 0 1 2",
    "way a", "way a 0", "way a 0 1 2", "answer", "answer a", "answer a middle", "paper a middle", "worth a middle",
    "answer a ", "worth ", "Tree a 1", "TREE a 1", "trees a 1", "put a 1", "name", "help", "ok", "=", "-", "tree-a 1",
    "a", "takes", "shows", "takes a", "takes a middle", "takes a middle 1", "takes a middle 1 -",
    "takes a middle 1 - 0 0", "takes a middle 1 - =", "takes a middle 1 = 0 0 0", "takes a middle 1 -= 0 0",
    "takes a middle 1 - == 0", "takes a = 1 = 0 0", "takes a middle 1 - 0 0 0 =", "shows a middle 1 = - 0",
    "shows a middle 1 - 0 0 0", "shows a middle 1 - =", "shows = = = = =", "takes a middle 1 - 0",
    "takes\ta middle 1 - = 0", "names\n", "\nnames",
]


# Rows that ask no question of the kind where FORK stands.
NO_QUESTIONS = [
    ("middle", "."), ("middle", "0"), ("balance", "-"), ("balance", "1 2 3"), ("balance", "1 2 3 -4"),
    ("balance", "1 2 3 4 / ."), ("wells", "-"), ("wells", "4"), ("wells", "0 0"), ("wells", "0 / 0"),
    ("wells", "0 / 4 1"), ("wells", "0 / 1 -1"), ("reach", "1 / 0"), ("reach", "0 / 0 / 0"), ("reach", "1 / . / 0"),
    ("reach", "1 / 0 / 4"), ("reach", "1 / 0 / 0 / 0"), ("spots", "."), ("spots", "0 3"), ("spots", "4"),
    ("colours", "0 0"), ("colours", "1 / ."), ("worths", "-"), ("worths", "1"), ("worths", "-1 / 0"),
    ("worths", "1 2 / 0"), ("worths", "1 / 0 3"), ("goods", "-"), ("goods", "1 0 0 0"), ("goods", "0 0 0"),
    ("walks", "."), ("walks", "0"), ("sweeps", "1 2"), ("round", "-"), ("round", "4"), ("round", "0 / 0"),
    ("round", SIXTY),
]

ODD_WORDS = ("", "=", "-", ".", "/", "0", "-1", "00", "a", "zz", "A", "none", "middle", "walks", "tree", "names",
             "takes", "5", "13", SIXTY, "1" + SIXTY)


def outcome(desk, row):
    """What is answered, or the class of the refusal."""
    try:
        return desk.say(row)
    except TreeError as refusal:
        return refusal.__class__


def standing(desk):
    """All that a desk keeps."""
    return [(name, desk.say(f"show {name}")) for name in desk.say("names").split(" ") if name]


def desk_with(**texts):
    desk = Desk()
    for name, text in texts.items():
        desk.say(f"tree {name} {text}")
    return desk


def chance_row(chance, trees):
    """A row that may be right: names, places, kinds and texts are mostly such as stand there."""
    name = chance.choice(sorted(trees) or ["a"])
    if chance.random() < 0.1:
        name = chance.choice(("a", "b", "c", "A", "", "dd"))
    many, roads = trees.get(name, FORK)
    places = [str(chance.choice((0, many - 1, chance.randrange(many), chance.randint(-1, many)))) for _ in range(2)]
    sort = chance.choice(SORTS)
    if sort == "tree":
        tree = chance.choice(all_trees()[:41:8] + great_trees()[::9] + NO_TREES[:4])
        return f"tree {chance.choice((name, 'a', 'b', 'cc'))} " + shown([[tree[0]]] + tree[1])
    if sort == "grow":
        return f"grow {name} {places[0]} {chance.choice((1, 7, GREAT, 0, -1))}"
    if sort == "cut":
        return f"cut {name} {places[0]}"
    if sort in ("drop", "show"):
        return f"{sort} {name}" if sort == "show" or chance.random() < 0.2 else "names"
    if sort == "names":
        return "names"
    if sort in ("far", "way"):
        return f"{sort} {name} {places[0]} {places[1]}"
    return chance_question(chance, sort, name, many, roads)


def chance_question(chance, sort, name, many, roads):
    word = chance.choice(WORDS)
    table = fars(many, roads)
    asked = chance_asked(chance, word, many, roads, table)
    text = shown(chance.choice(spoilt_rows(many, asked)) if chance.random() < 0.1 else asked)
    if sort in ("answer", "paper", "worth"):
        return f"{sort} {name} {word} {text}"
    kind = kind_of(word)
    worth = chance.choice(near_by(kind.worth(many, roads, asked)))
    if sort == "takes":
        rows = kind.answer(many, roads, asked) or []
        others = chance_answers(chance, word, many, roads, asked)
    else:
        rows = kind.paper(many, roads, asked)
        others = chance_papers(chance, word, many, roads, asked, table)
    rows = chance.choice([rows, rows, chance.choice(others or [[]]), chance.choice(spoilt_rows(many, rows))])
    return f"{sort} {name} {word} {'none' if worth is None else worth} {text} = {shown(rows)}"


def spoilt_row(chance, row):
    """The row with one word exchanged, left out, put in or told twice, or one sign more or less."""
    words, spot = row.split(" "), chance.randrange(len(row) + 1)
    place, word = chance.randrange(len(words) + 1), chance.choice(ODD_WORDS)
    found = [words[:place] + [word] + words[place + 1:], words[:place] + words[place + 1:], words[:place],
             words[:place] + [word] + words[place:], words[:place + 1] + words[place:]]
    found = [" ".join(some) for some in found]
    found += [row[:spot] + chance.choice(" 0=a-./") + row[spot:], row[:spot] + row[spot + 1:]]
    return chance.choice(found)


class AgainstDefinition(unittest.TestCase):
    def check(self, desk, slow, row):
        expected = outcome(slow, row)
        told = outcome(desk, row)
        if callable(expected) and not isinstance(expected, type):
            self.assertIsInstance(told, str, row)
            self.assertTrue(expected(told), (row, told))
        else:
            self.assertEqual(told, expected, (row, slow.trees))
        self.assertEqual(standing(desk), [(name, slow.say(f"show {name}")) for name in sorted(slow.trees)], row)
        return expected

    def test_long_talks(self):
        for seed in range(40):
            chance, desk, slow = random.Random(seed), Desk(), SlowDesk()
            for _ in range(120):
                row = chance_row(chance, slow.trees)
                self.check(desk, slow, row if chance.random() < 0.75 else spoilt_row(chance, row))

    def test_rows_with_two_things_wrong(self):
        chance, desk, slow = random.Random(90), desk_with(a=FORK_TEXT), SlowDesk()
        slow.say(f"tree a {FORK_TEXT}")
        refused = {}
        for _ in range(6000):
            row = spoilt_row(chance, spoilt_row(chance, chance.choice(RIGHT)))
            told = self.check(desk, slow, row)
            refused[told if isinstance(told, type) else str] = True
            for keeper in (desk, slow):
                keeper.say(f"tree a {FORK_TEXT}")
                for name in keeper.say("names").split(" "):
                    if name != "a":
                        keeper.say(f"drop {name}")
        for name in (NoRow, NoName, NoKind, NoText, NoQuestion, NoTree, NoPlace):
            self.assertIn(name, refused)

    def test_all_rows_of_few_words(self):
        desk, slow = desk_with(a="2 / 0 1 3"), SlowDesk()
        slow.say("tree a 2 / 0 1 3")
        for size in range(1, 5):
            words = ("tree", "grow", "cut", "drop", "show", "far", "way", "worth", "takes", "names", "", "a", "0")
            for some in itertools.product(words, ("a", "b", "", "A"), ("0", "1", "2", "=", ""), ("1", "", "-")):
                self.check(desk, slow, " ".join(some[:size]))

    def test_all_places_of_the_parting_word(self):
        desk, slow = desk_with(a=FORK_TEXT), SlowDesk()
        slow.say(f"tree a {FORK_TEXT}")
        for sort in ("takes", "shows"):
            for size in range(2, 7):
                for some in itertools.product(("=", "0", "-"), repeat=size):
                    for worth in ("5", "none", "="):
                        self.check(desk, slow, " ".join((sort, "a", "round", worth) + some))


class Talks(unittest.TestCase):
    def test_a_tree_is_put_shown_and_dropped(self):
        desk = Desk()
        self.assertEqual(desk.say("names"), "")
        self.assertEqual(desk.say(f"tree a {FORK_TEXT}"), "ok")
        self.assertEqual(desk.say("show a"), FORK_TEXT)
        self.assertEqual(desk.say("names"), "a")
        self.assertEqual(desk.say("drop a"), "ok")
        self.assertEqual(desk.say("names"), "")
        self.assertRaises(NoName, desk.say, "show a")
        self.assertRaises(NoName, desk.say, "drop a")

    def test_all_trees_are_shown_as_they_were_told(self):
        desk = Desk()
        for many, roads in all_trees():
            self.assertEqual(desk.say(f"tree t {shown_tree(many, roads)}"), "ok")
            self.assertEqual(desk.say("show t"), shown_tree(many, roads))

    def test_names_are_sorted(self):
        desk = Desk()
        for name in NAMES:
            self.assertEqual(desk.say(f"tree {name} 1"), "ok")
        self.assertEqual(desk.say("names"), " ".join(sorted(NAMES)))
        desk.say("drop tree")
        self.assertEqual(desk.say("names").split(" "), sorted(set(NAMES) - {"tree"}))

    def test_a_name_is_given_anew(self):
        desk = desk_with(a=FORK_TEXT, b="1")
        self.assertEqual(desk.say("tree a 2 / 1 0 9"), "ok")
        self.assertEqual(standing(desk), [("a", "2 / 1 0 9"), ("b", "1")])

    def test_far_and_way(self):
        desk = Desk()
        for many, roads in great_trees()[::5]:
            desk.say(f"tree t {shown_tree(many, roads)}")
            table = fars(many, roads)
            for a, b in itertools.product(range(many), repeat=2):
                self.assertEqual(desk.say(f"far t {a} {b}"), str(table[a][b]))
                row = read(desk.say(f"way t {a} {b}"))[0]
                self.assertEqual((row[0], row[-1]), (a, b))
        self.assertEqual(desk_with(a=FORK_TEXT).say("way a 0 3"), "0 1 3")
        self.assertEqual(desk_with(a=FORK_TEXT).say("way a 2 2"), "2")

    def test_numbers_longer_than_those_that_are_read_are_told(self):
        desk = desk_with(a=f"3 / 0 1 {SIXTY} / 1 2 {SIXTY}")
        self.assertEqual(desk.say("far a 0 2"), str(2 * int(SIXTY)))
        self.assertEqual(desk.say(f"worth a goods {GREAT} 0 -{GREAT}"), str(2 * int(SIXTY) * GREAT))
        self.assertEqual(desk.say("show a"), f"3 / 0 1 {SIXTY} / 1 2 {SIXTY}")

    def test_questions_of_each_kind(self):
        desk = desk_with(a=FORK_TEXT)
        for word, asked, answers, papers, worth in (
                ("middle", "-", ("3 1 12", "1 3 2"), ("0 3", "3 0"), "12"),
                ("balance", "1 2 3 4", ("1",), ("1 / 0 1 / 2 3 / 3 4",), "39"),
                ("wells", "0 1 2 3 / 0 5 / 2 2 / 3 6", ("1 3", "0 1 3"), ("1 2", "0 2"), "2"),
                ("wells", ". / 0 5", ("none",), ("0",), "none"), ("wells", "3", (".",), (".",), "0"),
                ("reach", "2 / 0 1 3 / 0 2 3", ("1 3",), ("0 1 2",), "5"),
                ("reach", "1 / 2 / .", (".", "2"), (".",), "0"),
                ("spots", "3 1 / 0 / 1 0 / 2 1", ("0 1",), ("0 1", "1 3"), "2"), ("spots", "-", (".",), (".",), "0"),
                ("colours", "3 1 / 0", ("0 0",), ("0", "1", "3"), "1"),
                ("colours", "-", (".",), ("0", "1", "2", "3"), "0"),
                ("worths", "2 9 5 1 / 3 1 / 0 / 1 0 / 2 1", ("0 1",), ("9 2 0 0", "9 1 0 1"), "11"),
                ("worths", ".", (".",), ("0 0 0 0",), "0"), ("goods", "0 0 0 0", ("-",), None, "0"),
                ("goods", "1 -1 0 0", ("0 1 1",), None, "5"), ("walks", "-", None, ("0 1 2 3",), "2"),
                ("sweeps", "-", None, ("0 2 3",), "2"), ("round", ".", (".",), ("-",), "0"),
                ("round", "2", ("2",), ("-",), "0"),
                ("round", "3 2", ("3 1 2 1 3", "2 1 3 1 2", "1 2 1 3 1", "1 3 1 2 1"), ("2 1 / 1 3",), "18")):
            case = f"{word} {asked}"
            rows, paper = desk.say(f"answer a {case}"), desk.say(f"paper a {case}")
            self.assertIn(rows, answers or [rows], case)
            self.assertIn(paper, papers or [paper], case)
            self.assertEqual(desk.say(f"worth a {case}"), worth, case)
            self.assertEqual(desk.say(f"shows a {word} {worth} {asked} = {paper}"), "yes", case)
            if rows != "none":
                self.assertEqual(desk.say(f"takes a {word} {worth} {asked} = {rows}"), "yes", case)
                self.assertEqual(desk.say(f"takes a {word} none {asked} = {rows}"), "no", case)
                self.assertEqual(desk.say(f"shows a {word} none {asked} = {paper}"), "no", case)
                more, less = (int(worth) + 1, int(worth) - 1)[::-1 if word == "worths" else 1]
                self.assertEqual(desk.say(f"takes a {word} {more} {asked} = {rows}"), "yes", case)
                self.assertEqual(desk.say(f"takes a {word} {less} {asked} = {rows}"), "no", case)
                self.assertEqual(desk.say(f"shows a {word} {more} {asked} = {paper}"), "no", case)
                self.assertEqual(desk.say(f"shows a {word} {less} {asked} = {paper}"), "yes", case)

    def test_all_that_a_desk_tells_it_takes(self):
        chance = random.Random(91)
        for many, roads in all_trees()[::9]:
            desk, table = desk_with(t=shown_tree(many, roads)), fars(many, roads)
            for word in WORDS:
                asked = shown_rows(chance_asked(chance, word, many, roads, table))
                if word == "reach":
                    asked = "2" + asked[asked.index(" "):]
                worth = desk.say(f"worth t {word} {asked}")
                if len(worth) <= 60:
                    rows, paper = desk.say(f"answer t {word} {asked}"), desk.say(f"paper t {word} {asked}")
                    self.assertEqual(desk.say(f"shows t {word} {worth} {asked} = {paper}"), "yes", (word, asked))
                    if rows != "none":
                        self.assertEqual(desk.say(f"takes t {word} {worth} {asked} = {rows}"), "yes", (word, asked))

    def test_two_desks_share_nothing(self):
        one, two = desk_with(a=FORK_TEXT), Desk()
        self.assertEqual(two.say("names"), "")
        self.assertRaises(NoName, two.say, "show a")
        two.say("tree a 1")
        one.say("grow a 3 4")
        two.say("tree b 2 / 0 1 1")
        self.assertEqual(standing(one), [("a", "5" + FORK_TEXT[1:] + " / 3 4 4")])
        self.assertEqual(standing(two), [("a", "1"), ("b", "2 / 0 1 1")])
        one.say("drop a")
        self.assertEqual(two.say("names"), "a b")

    def test_two_names_share_nothing(self):
        desk = desk_with(a=FORK_TEXT, b=FORK_TEXT)
        desk.say("grow a 3 4")
        desk.say("cut b 0")
        self.assertEqual(standing(desk), [("a", "5" + FORK_TEXT[1:] + " / 3 4 4"), ("b", "3 / 1 0 2 / 0 2 7")])

    def test_every_answer_is_a_text(self):
        for row in RIGHT:
            self.assertIs(desk_with(a=FORK_TEXT).say(row).__class__, str, row)

    def test_asking_changes_nothing(self):
        desk = desk_with(a=FORK_TEXT, b="1")
        before = standing(desk)
        for row in RIGHT[4:]:
            desk.say(row)
            self.assertEqual(standing(desk), before, row)


class GrownAndCut(unittest.TestCase):
    def test_by_hand(self):
        desk = desk_with(a=FORK_TEXT)
        self.assertEqual(desk.say("grow a 2 6"), "ok")
        self.assertEqual(desk.say("show a"), "5" + FORK_TEXT[1:] + " / 2 4 6")
        self.assertEqual(desk.say("cut a 0"), "ok")
        self.assertEqual(desk.say("show a"), "4 / 1 0 2 / 0 2 7 / 1 3 6")
        self.assertEqual(desk.say("cut a 3"), "ok")
        self.assertEqual(desk.say("show a"), "3 / 1 0 2 / 0 2 7")
        self.assertEqual(desk.say("cut a 1"), "ok")
        self.assertEqual(desk.say("show a"), "2 / 0 1 7")
        self.assertEqual(desk.say("cut a 0"), "ok")
        self.assertEqual(desk.say("show a"), "1")
        self.assertRaises(NoRoad, desk.say, "cut a 0")

    def test_what_grew_and_was_cut_is_what_it_was(self):
        for many, roads in all_trees():
            desk, text = desk_with(a=shown_tree(many, roads)), shown_tree(many, roads)
            for place in range(many if many < 12 else 0):
                self.assertEqual(desk.say(f"grow a {place} {GREAT}"), "ok")
                self.assertEqual(desk.say("show a"), f"{many + 1}{text[len(str(many)):]} / {place} {many} {GREAT}")
                self.assertEqual(desk.say(f"far a {many} {place}"), str(GREAT))
                self.assertEqual(desk.say(f"cut a {many}"), "ok")
                self.assertEqual(desk.say("show a"), text)

    def test_cut_at_each_place(self):
        for many, roads in all_trees():
            for place in range(many):
                desk = desk_with(a=shown_tree(many, roads))
                if sum(place in road[:2] for road in roads) == 1:
                    left = [other for other in range(many) if other != place]
                    kept = [[left.index(a), left.index(b), length] for a, b, length in roads if place not in (a, b)]
                    self.assertEqual(desk.say(f"cut a {place}"), "ok")
                    self.assertEqual(desk.say("show a"), shown_tree(many - 1, kept))
                else:
                    self.assertRaises(NoRoad, desk.say, f"cut a {place}")
                    self.assertEqual(desk.say("show a"), shown_tree(many, roads))

    def test_grown_to_twelve_places_and_no_further(self):
        for place in ("0", None):
            desk = desk_with(a="1")
            for many in range(1, 12):
                self.assertEqual(desk.say(f"grow a {place or many - 1} {many}"), "ok")
            text = desk.say("show a")
            self.assertEqual(text.split(" / ")[0], "12")
            for length in ("1", "0", "-1", SIXTY):
                self.assertRaises(NoTree, desk.say, f"grow a 11 {length}")
            self.assertRaises(NoPlace, desk.say, "grow a 12 1")
            self.assertEqual(desk.say("show a"), text)
            for many in range(12, 1, -1):
                self.assertEqual(desk.say(f"cut a {many - 1}"), "ok")
            self.assertEqual(desk.say("show a"), "1")

    def test_refused(self):
        desk = desk_with(a=FORK_TEXT)
        for place in ("4", "-1", "12", SIXTY, "-" + SIXTY):
            for length in ("1", "0", "-1"):
                self.assertRaises(NoPlace, desk.say, f"grow a {place} {length}")
            self.assertRaises(NoPlace, desk.say, f"cut a {place}")
        for length in ("0", "-1", "-" + SIXTY):
            self.assertRaises(NoTree, desk.say, f"grow a 3 {length}")
        self.assertRaises(NoRoad, desk.say, "cut a 1")
        for number in NO_NUMBERS:
            for row in (f"grow a {number} 1", f"grow a 9 {number}", f"grow a {number} 0", f"cut a {number}"):
                self.assertRaises(NoText, desk.say, row)
        self.assertEqual(standing(desk), [("a", FORK_TEXT)])


class Refused(unittest.TestCase):
    def check(self, desk, error, row):
        before = standing(desk)
        self.assertRaises(error, desk.say, row)
        self.assertIs(outcome(desk, row), error, row)
        self.assertEqual(standing(desk), before, row)

    def test_what_is_no_row(self):
        desk = desk_with(a=FORK_TEXT)
        for row in NO_ROWS:
            self.check(desk, NoRow, row)

    def test_no_row_goes_ahead_of_all(self):
        for row in ("grow B 0", "cut B 0 0", "answer B nothing", "takes B nothing x y z", "show B b", "drop", "far B x",
                    "takes B nothing x = y"):
            self.check(desk_with(a=FORK_TEXT), NoRow, row)

    def test_words_that_are_no_names(self):
        desk = desk_with(a=FORK_TEXT)
        for name in NO_NAMES + ("b", "aa", "abcdefgh"):
            for row in RIGHT[1:4] + RIGHT[5:]:
                self.check(desk, NoName, row.replace(" a", f" {name}", 1))
        for name in NO_NAMES:
            self.check(desk, NoName, f"tree {name} {FORK_TEXT}")

    def test_no_name_goes_ahead_of_no_kind_and_no_text(self):
        desk = desk_with(a=FORK_TEXT)
        for name in ("b", "B", ""):
            for row in ("grow N x y", "cut N x", "far N x y", "way N 9 x", "answer N x x", "paper N x ",
                        "worth N middle x", "takes N x x x = x", "shows N middle x - = x"):
                self.check(desk, NoName, row.replace("N", name))
        for text in ("x", "2", "", "1  "):
            self.check(desk, NoName, f"tree B {text}")

    def test_words_of_no_kind(self):
        desk = desk_with(a=FORK_TEXT)
        for word in ("", "Middle", "middles", "question", "none", "-", "=", "yards"):
            for row in ("answer a W -", "paper a W -", "worth a W x", "answer a W ", "takes a W 0 - = 0",
                        "shows a W x x = x", "takes a W none - = "):
                self.check(desk, NoKind, row.replace("W", word))

    def test_texts_of_another_form(self):
        desk = desk_with(a=FORK_TEXT)
        for text in ("", " ", "x", "- ", " -", "1  2", "1 /", "/ 1", "1 / / 2", "01", "-0", "1 .", "- / 1",
                     "1" + SIXTY):
            for row in (f"tree a {text}", f"answer a round {text}", f"paper a middle {text}", f"worth a walks {text}",
                        f"takes a round 5 {text} = .", f"takes a middle 5 - = {text}", f"shows a round 5 . = {text}",
                        f"shows a middle none {text} = 0", f"takes a middle none 7 = {text}"):
                self.check(desk, NoText, row)
        for number in NO_NUMBERS:
            for row in (f"far a {number} 0", f"far a 9 {number}", f"way a {number} 9", f"way a 0 {number}"):
                self.check(desk, NoText, row)
            if number != "none":
                self.check(desk, NoText, f"takes a middle {number} - = 0 0 0")
                self.check(desk, NoText, f"shows a middle {number} 7 = 0 0")

    def test_the_first_parting_word_parts(self):
        desk = desk_with(a=FORK_TEXT)
        self.check(desk, NoText, "takes a round 5 . = . = .")
        self.check(desk, NoText, "takes a round 5 = = .")
        self.check(desk, NoText, "shows a round = . = -")
        self.check(desk, NoText, "shows a round 5 . = = -")
        self.check(desk, NoText, "shows a round 5 . = ")
        self.assertEqual(desk.say("shows a round 0 . = -"), "yes")

    def test_rows_that_ask_no_question(self):
        desk = desk_with(a=FORK_TEXT)
        for word, asked in NO_QUESTIONS:
            for row in (f"answer a {word} {asked}", f"paper a {word} {asked}", f"worth a {word} {asked}",
                        f"takes a {word} 5 {asked} = -", f"shows a {word} none {asked} = 7 / 7"):
                self.check(desk, NoQuestion, row)
            # All texts are read ahead of that.
            for row in (f"takes a {word} 5 {asked} = x", f"shows a {word} x {asked} = -",
                        f"takes a {word} 5 {asked} = - "):
                self.check(desk, NoText, row)

    def test_places_that_are_none(self):
        desk = desk_with(a=FORK_TEXT)
        for sort in ("far", "way"):
            for places in ("4 0", "0 4", "-1 0", f"0 {SIXTY}", "12 12", "0 -1"):
                self.check(desk, NoPlace, f"{sort} a {places}")

    def test_texts_of_no_tree(self):
        desk = desk_with(a=FORK_TEXT)
        for many, roads in NO_TREES[:-1]:
            for name in ("a", "b"):
                self.check(desk, NoTree, f"tree {name} {shown([[many]] + roads)}")
        for text in ("-", ".", "1 1", "2 / 0 1", "2 2 / 0 1 1"):
            self.check(desk, NoTree, f"tree b {text}")
            self.check(desk, NoTree, f"tree a {text}")

    def test_each_is_caught_by_three_names(self):
        desk = desk_with(a=FORK_TEXT)
        for error, row in ((NoRow, "x"), (NoName, "show b"), (NoKind, "answer a x -"), (NoText, "far a x 0"),
                           (NoQuestion, "answer a walks 0"), (NoTree, "tree a 2"), (NoPlace, "cut a 4"),
                           (NoRoad, "cut a 1")):
            for name in (error, TreeError, ValueError):
                self.assertRaises(name, desk.say, row)
            self.assertIs(outcome(desk, row), error)

    def test_long_rows(self):
        desk = desk_with(a=FORK_TEXT)
        self.assertEqual(desk.say("worth a spots 1" + " / 1 3" * 399), "1")
        self.assertEqual(desk.say("worth a colours 1" + " / 1 3" * 399), "400")
        self.assertEqual(desk.say("worth a round 0" + " 3" * 399), "24")
        self.assertEqual(desk.say(f"worth a worths {GREAT}" + " 1" * 198 + " / 1" * 199), str(GREAT))
        self.check(desk, NoRow, "x" * 10000)
        self.check(desk, NoText, "tree a " + " " * 9000)
        self.check(desk, NoText, "far a 0 " + str(HUGE))


if __name__ == "__main__":
    unittest.main()
