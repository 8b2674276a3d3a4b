import unittest

from widestkind.errors import ByZero
from widestkind.ratios import Ratio


def pair(ratio):
    return ratio.top, ratio.bottom


class Ratios(unittest.TestCase):
    def test_example(self):
        half = Ratio(-3, -6)
        found = [half.top, half.bottom, (half - 2).written(), half.over(Ratio(3, 4)).written(), half.below(1),
                 half + half == 1]
        self.assertEqual(found, [1, 2, "-3/2", "2/3", True, True])

    def test_lowest_terms(self):
        great = 10 ** 29
        for given, terms in [((6, 4), (3, 2)), ((-6, 4), (-3, 2)), ((6, -4), (-3, 2)), ((-6, -4), (3, 2)),
                             ((0, -5), (0, 1)), ((0,), (0, 1)), ((7,), (7, 1)), ((-7,), (-7, 1)),
                             ((great * 6, great * 4), (3, 2)), ((great, great + 1), (great, great + 1))]:
            self.assertEqual(pair(Ratio(*given)), terms)
        self.assertEqual(pair(Ratio(bottom=4, top=2)), (1, 2))

    def test_operations(self):
        one, other = Ratio(2, 3), Ratio(-5, 6)
        self.assertEqual(pair(one + other), (-1, 6))
        self.assertEqual(pair(one - other), (3, 2))
        self.assertEqual(pair(one * other), (-5, 9))
        self.assertEqual(pair(one.over(other)), (-4, 5))
        self.assertEqual(pair(one + 2), (8, 3))
        self.assertEqual(pair(one - 2), (-4, 3))
        self.assertEqual(pair(one * -3), (-2, 1))
        self.assertEqual(pair(one.over(-2)), (-1, 3))
        self.assertEqual(pair(one.over(number=2)), (1, 3))
        self.assertEqual(pair(one), (2, 3))

    def test_order(self):
        self.assertIs(Ratio(1, 3).below(Ratio(1, 2)), True)
        self.assertIs(Ratio(1, 2).below(Ratio(1, 2)), False)
        self.assertIs(Ratio(1, 2).below(Ratio(-1, 2)), False)
        self.assertIs(Ratio(-7, 2).below(-3), True)
        self.assertIs(Ratio(-7, 2).below(number=-4), False)
        self.assertIs(Ratio(4, 2).below(2), False)

    def test_equality(self):
        self.assertTrue(Ratio(2, 4) == Ratio(1, 2))
        self.assertFalse(Ratio(2, 4) == Ratio(1, 3))
        self.assertTrue(Ratio(4, 2) == 2)
        self.assertFalse(Ratio(1, 2) == 0)
        for value in [True, None, "1", (1, 1), [1], {1: 1}, 1.0]:
            self.assertFalse(Ratio(1) == value)
            self.assertTrue(Ratio(1) != value)
        self.assertFalse(Ratio(0) == False)  # noqa: E712

    def test_written(self):
        found = [Ratio(-3, 2).written(), Ratio(4, 2).written(), Ratio(0, 9).written(), Ratio(10 ** 29).written()]
        self.assertEqual(found, ["-3/2", "2", "0", "1" + "0" * 29])

    def test_by_zero(self):
        for deed in [lambda: Ratio(1, 0), lambda: Ratio(0, 0), lambda: Ratio(1).over(0),
                     lambda: Ratio(0).over(Ratio(0))]:
            with self.assertRaises(ByZero):
                deed()

    def test_it_never_changes(self):
        ratio = Ratio(1, 2)
        with self.assertRaises(AttributeError):
            ratio.top = 3
        with self.assertRaises(AttributeError):
            ratio.bottom = 3


if __name__ == "__main__":
    unittest.main()
