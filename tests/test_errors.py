import unittest

from treewells import errors

NAMES = ["NoTree", "NoPlace", "NoRoad", "NoSpot", "NoSite", "NoYard", "NoWorth", "NoGift",
         "NoText", "NoKind", "NoQuestion", "NoRow", "NoName"]


class Errors(unittest.TestCase):
    def test_all_thirteen_are_there_straight_under_tree_error(self):
        self.assertEqual(len(NAMES), 13)
        for name in NAMES:
            self.assertEqual(getattr(errors, name).__bases__, (errors.TreeError,), name)

    def test_tree_error_stands_under_value_error(self):
        self.assertEqual(errors.TreeError.__bases__, (ValueError,))

    def test_each_is_caught_by_its_own_name_and_those_above_alone(self):
        for name in NAMES:
            own = getattr(errors, name)
            for above in (own, errors.TreeError, ValueError):
                with self.assertRaises(above):
                    raise own("told")
            for other in NAMES:
                if other != name:
                    self.assertFalse(issubclass(own, getattr(errors, other)), (name, other))


if __name__ == "__main__":
    unittest.main()
