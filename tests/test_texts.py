import itertools
import random
import re
import unittest

from samples import FORK, GREAT, HUGE, NO_TREES, all_trees
from slow_desk import read
from treewells.errors import NoText, NoTree
from treewells.texts import read_rows, read_tree, shown_rows, shown_tree

SIXTY = "9" * 60

# Texts and the rows that they tell.
TEXTS = [
    ("-", []), (".", [[]]), ("0", [[0]]), ("7", [[7]]), ("-1", [[-1]]), ("10 0 -10", [[10, 0, -10]]),
    (". / .", [[], []]), ("1 / .", [[1], []]), (". / 1 2", [[], [1, 2]]), ("1 2 / 3 / 4 5 6", [[1, 2], [3], [4, 5, 6]]),
    ("-1 / -20", [[-1], [-20]]), (SIXTY, [[10 ** 60 - 1]]), ("-" + SIXTY, [[1 - 10 ** 60]]),
    ("1" + "0" * 59 + " / 1", [[10 ** 59], [1]]), ("0 0 0", [[0, 0, 0]]), ("1" + " / 1" * 399, [[1]] * 400),
    ("1" + " 1" * 399, [[1] * 400]), ("." + " / ." * 399, [[]] * 400),
]

NO_TEXTS = [
    "", " ", "  ", "/", " / ", "--", "- -", "..", ". .", "- / 1", "1 / -", ". 1", "1 .", "- 1", "1 -", "1 / . 2",
    "1 - 2", "00", "01", "-0", "-01", "007", "1 02", "+1", "1.0", "1,2", "1_0", "0x1", "1e3", "a", "1 a", "none", "=",
    "1 = 2", " 1", "1 ", "1  2", " -", "- ", " .", ". ", "1 /2", "1/ 2", "1/2", "/ 1", "1 /", " / 1", "1 / ",
    "1 / / 2", "1 /  / 2", "1  / 2", "1 /  2", "1 // 2", "- 1 / 2", "-1-2", "1-", "- /", "/ -", ". /", "/ .", "~",
    "(1)", "[[1]]", "1\n", "1\t2", "1" + SIXTY, "-1" + SIXTY, "0" * 60, "1 / 1" + SIXTY, "1" * 10000, "-" * 10000,
    " " * 10000, "1 " * 5000, "/ " * 5000,
]

# Rows that are not the number of places alone and the roads of a tree.
NO_TREE_TEXTS = [
    "-", ".", "0", "-1", "2", "13", "1 1", "1 / .", "1 / 0 0 1", "2 / .", "2 / 0 1", "2 / 0 1 0", "2 / 0 1 -1",
    "2 / 0 2 1", "2 / 0 0 1", "2 / 0 1 1 1", "2 / 0 1 1 / 0 1 1", ". / 0 1 1", "2 2 / 0 1 1", "0 1 1", "0 1 1 / 2",
    "3 / 0 1 1 / 1 0 1", "4 / 0 1 1 / 1 2 1 / 2 0 1", "3 / 0 1 1 / 1 -2 1", SIXTY, "1 / 1", ". / .", "2 / 0 1 / 1",
]


class Rows(unittest.TestCase):
    def test_texts_and_rows_both_ways(self):
        for text, rows in TEXTS:
            self.assertEqual(read_rows(text), rows)
            self.assertEqual(shown_rows(rows), text)

    def test_any_rows_are_shown_and_read_again(self):
        chance = random.Random(80)
        for _ in range(2000):
            most = chance.choice((1, 9, GREAT, 10 ** 60 - 1))
            sizes = [chance.randint(0, 4) for _ in range(chance.randint(0, 5))]
            rows = [[chance.randint(-most, most) for _ in range(size)] for size in sizes]
            text = shown_rows(rows)
            self.assertEqual(read_rows(text), rows, text)
            self.assertEqual(shown_rows(read_rows(text)), text)

    def test_numbers_that_are_told_may_be_longer(self):
        self.assertEqual(shown_rows([[HUGE, -HUGE], [10 ** 60]]), "9" * 100 + " -" + "9" * 100 + " / 1" + "0" * 60)
        self.assertEqual(shown_rows([[HUGE ** 4]]), str(HUGE ** 4))
        self.assertRaises(NoText, read_rows, shown_rows([[10 ** 60]]))

    def test_other_forms_are_refused(self):
        for text in NO_TEXTS:
            self.assertRaises(NoText, read_rows, text)
            self.assertRaises(NoText, read_tree, text)

    def test_a_sign_that_is_none_of_a_rows(self):
        for sign in map(chr, range(32, 127)):
            if sign not in "0123456789-./ ":
                for text in (sign, "1" + sign, sign + "1", f"1 {sign} 2", f"1 / {sign}", f"{sign} / 1"):
                    self.assertRaises(NoText, read_rows, text)

    def test_all_short_texts(self):
        for size in range(7):
            for signs in itertools.product("01-./ ", repeat=size):
                text = "".join(signs)
                rows = read(text)
                if rows is None:
                    self.assertRaises(NoText, read_rows, text)
                else:
                    self.assertEqual(read_rows(text), rows, text)
                    self.assertEqual(shown_rows(rows), text)

    def test_texts_with_one_sign_changed(self):
        chance = random.Random(81)
        for text, _ in TEXTS[:-3]:
            for _ in range(40):
                place, sign = chance.randrange(len(text) + 1), chance.choice("0123456789-./  =a")
                for other in (text[:place] + sign + text[place:], text[:place] + text[place + 1:],
                              text[:place] + sign + text[place + 1:]):
                    rows = read(other)
                    if rows is None:
                        self.assertRaises(NoText, read_rows, other)
                    else:
                        self.assertEqual(read_rows(other), rows, other)

    def test_what_is_read_is_a_new_list(self):
        told = read_rows("1 2 / 3")
        told[0].append(9)
        told.append([9])
        self.assertEqual(read_rows("1 2 / 3"), [[1, 2], [3]])
        rows = [[1, 2], []]
        shown_rows(rows)
        self.assertEqual(rows, [[1, 2], []])


class Trees(unittest.TestCase):
    def test_trees_both_ways(self):
        for many, roads in all_trees():
            text = " / ".join([str(many)] + [" ".join(map(str, road)) for road in roads])
            self.assertEqual(shown_tree(many, roads), text)
            told = read_tree(text)
            self.assertIsInstance(told, tuple)
            self.assertEqual(told, (many, roads))
            self.assertIsInstance(told[1], list)

    def test_by_hand(self):
        self.assertEqual(shown_tree(*FORK), "4 / 0 1 5 / 2 1 2 / 1 3 7")
        self.assertEqual(read_tree("4 / 0 1 5 / 2 1 2 / 1 3 7"), FORK)
        self.assertEqual(read_tree("1"), (1, []))
        self.assertEqual(shown_tree(1, []), "1")

    def test_rows_that_are_no_tree_are_refused(self):
        for text in NO_TREE_TEXTS:
            self.assertIsNotNone(read(text))
            self.assertRaises(NoTree, read_tree, text)
        for many, roads in NO_TREES:
            self.assertRaises(NoTree, shown_tree, many, roads)
            text = shown_rows([[many]] + roads)
            self.assertRaises(NoText if re.search("[0-9]{61}", text) else NoTree, read_tree, text)

    def test_another_form_goes_ahead_of_no_tree(self):
        for text in ("2 / 0 1 0 /", "01", "2 / 0 1 01", "13 / - ", "1 1  ", ". 0"):
            self.assertRaises(NoText, read_tree, text)

    def test_what_is_told_is_a_new_list_and_nothing_is_changed(self):
        text = shown_tree(*FORK)
        roads = [list(road) for road in FORK[1]]
        self.assertEqual(shown_tree(4, roads), text)
        self.assertEqual(roads, FORK[1])
        told = read_tree(text)
        told[1][0].append(1)
        told[1].pop()
        self.assertEqual(read_tree(text), FORK)


if __name__ == "__main__":
    unittest.main()
