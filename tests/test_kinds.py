import unittest

from askings import WORDS, Looks
from samples import FORK, GREAT, all_trees, from_code
from treewells.errors import NoKind
from treewells.gatherings import Colours, Round, Spots, Sweeps, Walks, Worths
from treewells.kinds import kind_of, kinds
from treewells.questions import Balance, Goods, Middle, Question, Reach, Wells

LINE = (4, [[3, 2, 1], [0, 1, 1], [1, 2, 1]])
CLASSES = (Middle, Balance, Wells, Reach, Spots, Colours, Worths, Goods, Walks, Sweeps, Round)
NO_WORDS = ("", " ", "Middle", "MIDDLE", "middle ", " middle", "middles", "mid", "question", "digging", "yards",
            "sweeping", "worth", "well", "none", "0", "-", "middle balance", "takes", "a" * 10000)


class Kinds(Looks, unittest.TestCase):
    def test_all_eleven_in_their_order(self):
        self.assertIsInstance(kinds(), list)
        self.assertEqual([kind.__class__ for kind in kinds()], list(CLASSES))
        self.assertEqual([kind.word() for kind in kinds()], list(WORDS))
        for kind in kinds():
            self.assertIsInstance(kind, Question)

    def test_the_list_is_a_new_one(self):
        told = kinds()
        other = kinds()
        told.clear()
        self.assertEqual([kind.word() for kind in other], list(WORDS))
        self.assertEqual([kind.word() for kind in kinds()], list(WORDS))

    def test_the_kind_that_has_a_word(self):
        for word, kind in zip(WORDS, CLASSES):
            self.assertIs(kind_of(word).__class__, kind)
            self.assertEqual(kind_of(word).word(), word)

    def test_words_of_no_kind(self):
        for word in NO_WORDS:
            self.assertRaises(NoKind, kind_of, word)

    def test_all_kinds_by_their_words(self):
        self.check_many_told([kind_of(word) for word in WORDS], all_trees()[::7], 2, 70)

    def test_all_kinds_at_small_trees_of_great_lengths(self):
        codes = ([], [1], [0, 2], [3, 3, 0], [1, 1, 1])
        trees = [(1, [])] + [from_code(code, [GREAT, 1, GREAT - 1, 2]) for code in codes]
        self.check_many_told(kinds(), trees, 8, 71)
        self.check_many_spoilt(kinds(), trees, 72)

    def test_kinds_keep_nothing(self):
        """What a kind was asked of one tree changes nothing of what it tells of another one."""
        asked_by = {"balance": [[1, 2, 3, 4]], "wells": [[3, 1], [0, 5], [3, 2]], "reach": [[1], [3, 1], [0, 2]],
                    "spots": [[1, 2], [0]], "colours": [[1, 2], [0, 1]], "worths": [[4, 4], [1, 2], [0, 1]],
                    "goods": [[3, 1, -2, -2]], "round": [[3, 2]]}
        for kind in kinds():
            asked = asked_by.get(kind.word(), [])
            told = (kind.answer(*FORK, asked), kind.paper(*FORK, asked), kind.worth(*FORK, asked))
            self.assertIs(kind.fits(*LINE, asked), True)
            for ask in (kind.answer, kind.paper, kind.worth):
                ask(*LINE, asked)
            self.assertEqual((kind.answer(*FORK, asked), kind.paper(*FORK, asked), kind.worth(*FORK, asked)), told)


if __name__ == "__main__":
    unittest.main()
