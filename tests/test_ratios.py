import operator
import unittest
from fractions import Fraction

from tests.tellers import fraction, ratio_of
from toll.errors import NoRatio
from toll.ratios import minus, over, plus, ratio, times, under

GREAT = 10 ** 60 - 1
NUMBERS = (0, 1, -1, 2, -2, 3, 6, -6, 7, 12, -30, 97, 10 ** 30, GREAT, -GREAT, GREAT - 7)
RATIOS = [ratio_of(Fraction(top, bottom)) for top in NUMBERS for bottom in (1, 2, 3, 6, 35, GREAT)]
NO_NUMBERS = (True, False, "", "1", None, (), (1,), (1, 2), [], [1], {}, 1.0, 0.5, b"1", object(), Fraction(1, 2))


class Ratio(unittest.TestCase):
    def test_by_hand(self):
        for top, bottom, due in (
                (1, 2, (1, 2)), (2, 4, (1, 2)), (-2, 4, (-1, 2)), (2, -4, (-1, 2)), (-2, -4, (1, 2)), (0, 5, (0, 1)),
                (0, -5, (0, 1)), (6, 3, (2, 1)), (6, -3, (-2, 1)), (7, 1, (7, 1)), (7, -1, (-7, 1)), (12, 18, (2, 3)),
                (17, 13, (17, 13)), (GREAT, GREAT, (1, 1)), (GREAT, -GREAT, (-1, 1)), (-9, 6, (-3, 2)),
                (10 ** 59, 5 ** 59, (2 ** 59, 1))):
            self.assertEqual(ratio(top, bottom), due)

    def test_all_pairs(self):
        for top in NUMBERS:
            for bottom in NUMBERS:
                if bottom:
                    self.assertEqual(fraction(ratio(top, bottom)), Fraction(top, bottom))

    def test_a_second_number_of_0(self):
        for top in NUMBERS:
            with self.assertRaises(NoRatio):
                ratio(top, 0)

    def test_what_is_no_whole_number(self):
        for thing in NO_NUMBERS:
            for other in NO_NUMBERS + NUMBERS:
                for pair in ((thing, other), (other, thing)):
                    with self.subTest(pair):
                        with self.assertRaises(NoRatio):
                            ratio(*pair)


class Reckoned(unittest.TestCase):
    def test_by_hand(self):
        self.assertEqual(plus((1, 2), (1, 3)), (5, 6))
        self.assertEqual(plus((1, 2), (-1, 2)), (0, 1))
        self.assertEqual(plus((1, 6), (1, 3)), (1, 2))
        self.assertEqual(minus((1, 2), (1, 3)), (1, 6))
        self.assertEqual(minus((1, 3), (1, 2)), (-1, 6))
        self.assertEqual(minus((4, 3), (4, 3)), (0, 1))
        self.assertEqual(times((2, 3), (3, 4)), (1, 2))
        self.assertEqual(times((-2, 3), (0, 1)), (0, 1))
        self.assertEqual(over((2, 3), (-4, 9)), (-3, 2))
        self.assertEqual(over((0, 1), (-4, 9)), (0, 1))
        self.assertEqual(over((5, 1), (5, 1)), (1, 1))

    def test_all_pairs(self):
        for one in RATIOS:
            for other in RATIOS:
                first, second = fraction(one), fraction(other)
                for told, reckoned in ((plus, operator.add), (minus, operator.sub), (times, operator.mul)):
                    self.assertEqual(fraction(told(one, other)), reckoned(first, second))
                if second:
                    self.assertEqual(fraction(over(one, other)), first / second)

    def test_over_0(self):
        for one in RATIOS:
            with self.assertRaises(NoRatio):
                over(one, (0, 1))

    def test_under(self):
        for one in RATIOS:
            self.assertIs(under(one, one), False)
            for other in RATIOS:
                self.assertIs(under(one, other), fraction(one) < fraction(other))
        self.assertIs(under((1, 3), (1, 2)), True)
        self.assertIs(under((-1, 3), (-1, 2)), False)
        self.assertIs(under((-1, 2), (0, 1)), True)
        self.assertIs(under((0, 1), (-1, 2)), False)
        self.assertIs(under((GREAT, GREAT - 7), (1, 1)), False)


if __name__ == "__main__":
    unittest.main()
