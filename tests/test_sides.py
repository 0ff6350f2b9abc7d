import copy
import random
import time
import unittest
import unittest.mock
from fractions import Fraction

from tests.samples import EVEN
from tests.tellers import BAD_TABLES, fraction, sum_of, table_of, value_by_hand
from toll.errors import NoFunction, NoTable, TooMany
from toll.near import dearest
from toll.sides import above_from, side_by_side
from toll.sums import gathered
from toll.tables import plain_table
from toll.texts import read

PLAIN = plain_table()
GREAT = 10 ** 60 - 1

# Summing steps one by one, or two at a time at a dearer beginning; a tree walked; and what looks at nums alone.
TWO = read(
    "(fn one ((xs list)) (num 0 0) (list xs (give 0) (h t) (give (add h (call one t)))))"
    " (fn two ((n num) (xs list)) (num 0 0 0) (let a (add (add 1 2) (add 3 4)) (give (call pair xs))))"
    " (fn pair ((xs list)) (num 0 0) (list xs (give 0) (h t) (list t (give h) (i u) (give (call pair u)))))"
    " (fn walk ((t tree)) (num 0 0) (tree t (give 0) (l v r) (give (add (call walk l) (call walk r)))))"
    " (fn flat ((n num) (m num)) (num 0 0 0) (less n m (give 0) (give (add 1 1))))"
    " (fn slow ((xs list)) (num 0 0) (list xs (give 0) (h t) (give (add (call slow t) (call slow t)))))")


class SideBySide(unittest.TestCase):
    def told(self, one, other, end, numbers, table=PLAIN, most=None):
        kept = copy.deepcopy((table, numbers))
        rest = () if most is None else (most,)
        told = side_by_side(TWO, table, one, other, end, numbers, *rest)
        self.assertEqual((table, numbers), kept)
        self.assertEqual(side_by_side(TWO, table, one, other, end, numbers, *rest), told)
        self.assertIsInstance(told, tuple)
        self.assertEqual([pair.__class__ for pair in told[1]], [tuple] * (end + 1))
        shapes = {function[0]: [shape for param, shape in function[1]] for function in TWO}
        due = [tuple(dearest(TWO, table, name, [size] * len(shapes[name]), numbers, *rest)[0] for name in (one, other))
               for size in range(end + 1)]
        self.assertEqual(told[1], due)
        start = end + 1
        while start and due[start - 1][0] > due[start - 1][1]:
            start -= 1
        self.assertEqual(told[0], start)
        return told

    def test_by_hand(self):
        # one: 2 and 3 for each; two: 5 and that of pair, which is 2, then 3, 5, 6, 8.
        self.assertEqual(self.told("one", "two", 4, [1]), (4, [(2, 7), (5, 8), (8, 10), (11, 11), (14, 13)]))
        self.assertEqual(self.told("one", "two", 3, [1]), (4, [(2, 7), (5, 8), (8, 10), (11, 11)]))
        self.assertEqual(self.told("two", "one", 4, [1])[0], 5)
        self.assertEqual(self.told("two", "one", 2, [1])[0], 0)
        self.assertEqual(self.told("one", "one", 3, [1])[0], 4)
        self.assertEqual(self.told("one", "pair", 3, [1]), (1, [(2, 2), (5, 3), (8, 5), (11, 6)]))
        self.assertEqual(self.told("one", "two", 0, [1]), (1, [(2, 7)]))
        self.assertEqual(self.told("two", "one", 0, [1]), (0, [(7, 2)]))

    def test_above_within_and_not_at_the_end(self):
        told = self.told("two", "one", 5, [1])
        self.assertEqual([first > second for first, second in told[1]], [True, True, True, False, False, False])
        self.assertEqual(told[0], 6)

    def test_functions_with_unlike_params(self):
        self.assertEqual(self.told("walk", "flat", 4, [1]), (1, [(2, 3), (7, 3), (12, 3), (17, 3), (22, 3)]))
        self.assertEqual(self.told("flat", "walk", 2, [1, 2])[0], 3)
        self.told("flat", "one", 4, [0, 1, 2])
        self.told("two", "walk", 3, [0, 1])

    def test_nums_alone_at_many_sizes(self):
        begin = time.monotonic()
        told = side_by_side(TWO, PLAIN, "flat", "flat", 40, list(range(15)))
        self.assertEqual(told, (41, [(3, 3)] * 41))
        self.assertLess(time.monotonic() - begin, 30)

    def test_a_cut_and_a_table(self):
        self.assertEqual(self.told("one", "two", 4, [1], PLAIN, 6)[1], [(2, 6), (5, 6), (6, 6), (6, 6), (6, 6)])
        self.assertEqual(self.told("one", "two", 4, [1], table_of(sum=5))[1][0], (2, 19))
        self.assertEqual(self.told("slow", "one", 9, [1])[1][-1], (1000, 29))
        self.assertEqual(side_by_side(TWO, PLAIN, "slow", "one", 9, [1], 5000)[1][-1], (2557, 29))

    def test_up_to_forty(self):
        told = side_by_side(TWO, PLAIN, "one", "pair", 40, [3])
        self.assertEqual(len(told[1]), 41)
        self.assertEqual(told[1][40], (40, 2 + 3 * 19 + 1))

    def test_what_is_told_is_new(self):
        first = side_by_side(TWO, PLAIN, "one", "two", 3, [1])
        due = copy.deepcopy(first)
        first[1].clear()
        self.assertEqual(side_by_side(TWO, PLAIN, "one", "two", 3, [1]), due)


class Refused(unittest.TestCase):
    def refused(self, error, table, one, other, end, numbers):
        begin = time.monotonic()
        with unittest.mock.patch("toll.near.trace", side_effect=AssertionError("a run")):
            with self.assertRaises(error) as caught:
                side_by_side(TWO, table, one, other, end, numbers)
        self.assertIs(caught.exception.__class__, error)
        self.assertLess(time.monotonic() - begin, 10)

    def test_in_their_order(self):
        for table in BAD_TABLES:
            self.refused(NoTable, table, "one", "two", 2, [1])
            self.refused(NoTable, table, "none", "other", 40, [1, 2])
        for one, other in (("none", "two"), ("one", "none"), ("none", "other"), ("", "one"), ("one", "")):
            self.refused(NoFunction, PLAIN, one, other, 2, [1])
            self.refused(NoFunction, PLAIN, one, other, 40, [1, 2])

    def test_too_many(self):
        self.refused(TooMany, PLAIN, "one", "walk", 7, [1])
        self.refused(TooMany, PLAIN, "walk", "one", 7, [1])
        self.refused(TooMany, PLAIN, "one", "pair", 8, [1, 2])
        self.refused(TooMany, PLAIN, "walk", "walk", 40, [1])
        self.refused(TooMany, PLAIN, "flat", "one", 0, list(range(16)))
        self.refused(TooMany, PLAIN, "one", "flat", 0, list(range(16)))
        self.refused(TooMany, PLAIN, "slow", "one", 40, [1, 2])
        self.assertEqual(side_by_side(TWO, PLAIN, "one", "walk", 6, [1])[0], 7)
        self.assertEqual(side_by_side(TWO, PLAIN, "one", "pair", 7, [1, 2])[0], 1)


def flat_sum(*numbers):
    return sum_of(*[((power,), number) for power, number in enumerate(numbers) if number])


def through(values):
    """The sum over one size that has these values at 0, 1 and so on, with one power fewer than there are values."""
    parts = []
    for power in range(len(values)):
        parts.append(((power,), (values[0], 1)))
        values = [after - before for before, after in zip(values, values[1:])]
    return gathered(parts)


def cubic(first, second, third):
    """A sum that is below 0 up to the first one, then above it up to the second, and so on."""
    return through([(2 * n - 2 * first - 1) * (2 * n - 2 * second - 1) * (2 * n - 2 * third - 1) for n in range(4)])


class AboveFrom(unittest.TestCase):
    def test_by_hand(self):
        for one, other, due in (
                ((), (), None), (flat_sum(1), (), 0), ((), flat_sum(1), None), ((), flat_sum(-1), 0),
                (flat_sum(1), flat_sum(1), None), (flat_sum(2, 3), flat_sum(2, 3), None),
                (flat_sum(3, 3), flat_sum(2, 3), 0), (flat_sum(2, 3), flat_sum(3, 3), None),
                (flat_sum(0, 1), (), 1), (flat_sum(0, 0, 1), (), 2), (flat_sum(0, 0, 0, 1), (), 3),
                (flat_sum(0, 1), flat_sum(10), 11), (flat_sum(0, 2), flat_sum(11), 6), (flat_sum(0, 2), flat_sum(12), 7),
                (flat_sum(5), flat_sum(0, 1), None), (flat_sum(0, 0, 1), flat_sum(0, 10), 22),
                (flat_sum(0, 0, 1), flat_sum(1), 3), (flat_sum(5, 0, 1), flat_sum(0, 1), 0),
                (flat_sum(0, Fraction(1, 2)), flat_sum(0, Fraction(1, 3)), 1),
                (flat_sum(0, Fraction(1, 2)), flat_sum(Fraction(7, 2)), 8)):
            self.assertEqual(above_from(one, other), due, (one, other))
            self.assertEqual(above_from(one, other), due)

    def test_at_once_from_0(self):
        self.assertEqual(above_from(flat_sum(1, 1, 1, 1), ()), 0)
        self.assertEqual(above_from(flat_sum(1, 0, 0, 1), flat_sum(0, 0, 0, 1)), 0)

    def test_above_for_a_while_and_then_not(self):
        self.assertIsNone(above_from(flat_sum(10), flat_sum(0, 1)))
        self.assertIsNone(above_from(flat_sum(0, 10), flat_sum(0, 0, 1)))
        self.assertIsNone(above_from(flat_sum(0, 0, GREAT), flat_sum(0, 0, 0, 1)))

    def test_twice(self):
        parabola = through([(n - 5) * (n - 9) for n in range(3)])
        self.assertEqual(above_from(parabola, ()), 10)
        self.assertEqual(above_from(added_to(parabola, 4), ()), 8)
        self.assertEqual(above_from(added_to(parabola, 5), ()), 0)
        self.assertIsNone(above_from((), parabola))

    def test_three_times(self):
        for first, second, third in ((2, 5, 9), (0, 1, 2), (0, 40, 41), (10, 11, 300), (7, 7, 9)):
            self.assertEqual(above_from(cubic(first, second, third), ()), third + 1)
            self.assertIsNone(above_from((), cubic(first, second, third)))
        # Between two sizes it comes down to 0 and goes up again: at no size is it not above.
        self.assertEqual(above_from(cubic(4, 7, 7), ()), 5)
        self.assertEqual(above_from(cubic(3, 9, 9), ()), 4)
        self.assertEqual(above_from(cubic(-1, 2, 3), ()), 4)
        self.assertEqual(above_from(cubic(-9, -4, -1), ()), 0)

    def test_a_dip_that_stays_above(self):
        # From 4 on it is above; from 8 to 12 it falls, but not so far.
        values = [n ** 3 - 30 * n ** 2 + 288 * n - 700 for n in range(30)]
        due = max(n for n in range(30) if values[n] <= 0) + 1
        self.assertGreater(values[8], values[12])
        self.assertEqual(above_from(through(values[:4]), ()), due)

    def test_great_sizes(self):
        self.assertEqual(above_from(flat_sum(0, 1), flat_sum(GREAT)), GREAT + 1)
        self.assertEqual(above_from(flat_sum(0, 0, 0, 1), flat_sum(0, 0, GREAT)), 3 * GREAT + 3)
        self.assertEqual(above_from(flat_sum(0, 0, 1), flat_sum(0, GREAT)), 2 * GREAT + 2)
        self.assertEqual(above_from(flat_sum(0, Fraction(1, GREAT)), flat_sum(GREAT)), GREAT * GREAT + 1)
        one, other = flat_sum(0, 0, 0, Fraction(1, GREAT)), flat_sum(GREAT, GREAT, GREAT)
        told = above_from(one, other)
        self.assertGreater(value_by_hand(one, [told]), value_by_hand(other, [told]))
        self.assertLessEqual(value_by_hand(one, [told - 1]), value_by_hand(other, [told - 1]))
        self.assertGreater(told, 10 ** 119)
        for third in (10 ** 20, 10 ** 59):
            self.assertEqual(above_from(cubic(5, 10 ** 15, third), ()), third + 1)
            self.assertEqual(above_from(cubic(third - 2, third, third + 1), ()), third + 2)

    def test_many(self):
        chance = random.Random(61)
        seen = set()
        for turn in range(3000):
            one, other = (flat_sum(*[Fraction(chance.randint(-9, 9), chance.randint(1, 2))
                                     for power in range(chance.randint(0, 4))]) for side in range(2))
            told = above_from(one, other)
            above = [value_by_hand(one, [n]) > value_by_hand(other, [n]) for n in range(130)]
            if told is None:
                leading = [fraction(share) for powers, share in gathered(
                    list(one) + [(powers, (-share[0], share[1])) for powers, share in other])]
                self.assertTrue(not leading or leading[-1] < 0)
            else:
                self.assertIs(told.__class__, int)
                self.assertTrue(all(above[told:]))
                self.assertTrue(told == 0 or told > 130 or not above[told - 1])
            seen.add(told)
        self.assertTrue({None, 0, 1, 2, 3, 10} <= seen)

    def test_what_is_handed_in_stays(self):
        one, other = cubic(2, 5, 9), flat_sum(3, 1)
        kept = copy.deepcopy((one, other))
        self.assertEqual(above_from(one, other), above_from(one, other))
        self.assertEqual((one, other), kept)


def added_to(one, number):
    return gathered(list(one) + [((0,), (number, 1))])


class ANumAlone(unittest.TestCase):
    def test_a_function_of_nums(self):
        self.assertEqual(side_by_side(EVEN, PLAIN, "even", "odd", 2, [3]), (3, [(11, 11)] * 3))


if __name__ == "__main__":
    unittest.main()
