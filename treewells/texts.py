"""Texts of numbers, rows and trees, read and shown."""

from treewells.errors import NoText, NoTree
from treewells.trees import check_tree

FIGURES = "0123456789"
MOST_FIGURES = 60


# Whether the text is a number from 0 on: no nought stands ahead of other figures.
def are_figures(text):
    if len(text) == 0 or len(text) > MOST_FIGURES or not all([sign in FIGURES for sign in text]):
        return False
    return text == "0" or not text.startswith("0")


def is_number(text):
    if text.startswith("-"):
        return are_figures(text[1:]) and text != "-0"
    return are_figures(text)


def read_number(text):
    if not is_number(text):
        raise NoText("this is no text of a number")
    return int(text)


def read_row(text):
    if text == ".":
        return []
    return [read_number(word) for word in text.split(" ")]


def read_rows(text):
    if text == "-":
        return []
    return [read_row(part) for part in text.split(" / ")]


def shown_row(row):
    if len(row) == 0:
        return "."
    return " ".join([str(value) for value in row])


def shown_rows(rows):
    if len(rows) == 0:
        return "-"
    return " / ".join([shown_row(row) for row in rows])


def read_tree(text):
    rows = read_rows(text)
    if len(rows) == 0 or len(rows[0]) != 1:
        raise NoTree("the first row is to be the number of places alone")
    check_tree(rows[0][0], rows[1:])
    return (rows[0][0], rows[1:])


def shown_tree(many, roads):
    check_tree(many, roads)
    return shown_rows([[many]] + roads)
