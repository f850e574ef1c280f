"""The eleven kinds of questions, and the one that has a word."""

from treewells.errors import NoKind
from treewells.gatherings import Colours, Round, Spots, Sweeps, Walks, Worths
from treewells.questions import Balance, Goods, Middle, Reach, Wells


def kinds():
    return [Middle(), Balance(), Wells(), Reach(), Spots(), Colours(), Worths(), Goods(), Walks(), Sweeps(), Round()]


def kind_of(word):
    for kind in kinds():
        if kind.word() == word:
            return kind
    raise NoKind("no kind of question has this word")
