import copy
import itertools
import random
import time
import unittest
from fractions import Fraction

from tests.tellers import fraction, is_sum, ratio_of, sum_of, value_by_hand
from toll.sums import added, covers, gathered, laid, line_at, line_laid, scaled, value_at

GREAT = 10 ** 60 - 1


def any_powers(chance, many, most=3):
    powers = [0] * many
    for turn in range(chance.randint(0, most)):
        if many:
            powers[chance.randrange(many)] += 1
    return tuple(powers)


def any_share(chance, low=-9):
    return ratio_of(Fraction(chance.randint(low, 9), chance.randint(1, 6)))


def any_sum(chance, many, parts, low=-9):
    return gathered([(any_powers(chance, many), any_share(chance, low)) for part in range(parts)])


def any_line(chance, many, most=3):
    return tuple(chance.choice((0, 0, 1, chance.randint(0, most))) for number in range(many + 1))


class Gathered(unittest.TestCase):
    def test_by_hand(self):
        self.assertEqual(gathered([]), ())
        self.assertEqual(gathered([((), (1, 2))]), (((), (1, 2)),))
        self.assertEqual(gathered([((1,), (1, 2)), ((0,), (3, 1))]), (((0,), (3, 1)), ((1,), (1, 2))))
        self.assertEqual(gathered([((1,), (1, 2)), ((1,), (1, 3))]), (((1,), (5, 6)),))
        self.assertEqual(gathered([((1,), (1, 2)), ((0,), (0, 1)), ((1,), (-1, 2))]), ())
        self.assertEqual(gathered([((), (1, 1)), ((), (2, 1)), ((), (-3, 1))]), ())

    def test_powers_rise(self):
        parts = [(powers, (1, 1)) for powers in itertools.product(range(3), repeat=3)]
        due = tuple(parts)
        chance = random.Random(1)
        for turn in range(10):
            chance.shuffle(parts)
            self.assertEqual(gathered(parts), due)
        self.assertEqual([powers for powers, share in gathered([((0, 2), (1, 1)), ((1, 0), (1, 1)), ((0, 1), (1, 1))])],
                         [(0, 1), (0, 2), (1, 0)])

    def test_many(self):
        chance = random.Random(2)
        for turn in range(200):
            many = chance.randint(0, 4)
            parts = [(any_powers(chance, many), any_share(chance)) for part in range(chance.randint(0, 30))]
            kept = copy.deepcopy(parts)
            told = gathered(parts)
            self.assertTrue(is_sum(told, many), told)
            self.assertEqual(parts, kept)
            together = {}
            for powers, share in parts:
                together[powers] = together.get(powers, 0) + fraction(share)
            self.assertEqual({powers: fraction(share) for powers, share in told},
                             {powers: share for powers, share in together.items() if share})


class AddedAndScaled(unittest.TestCase):
    def test_by_hand(self):
        one = sum_of(((0,), 2), ((1,), 3))
        other = sum_of(((1,), -3), ((2,), Fraction(1, 2)))
        self.assertEqual(added(one, other), sum_of(((0,), 2), ((2,), Fraction(1, 2))))
        self.assertEqual(added(one, ()), one)
        self.assertEqual(added((), one), one)
        self.assertEqual(added((), ()), ())
        self.assertEqual(added(one, one), sum_of(((0,), 4), ((1,), 6)))
        self.assertEqual(scaled(one, (1, 2)), sum_of(((0,), 1), ((1,), Fraction(3, 2))))
        self.assertEqual(scaled(one, (-1, 1)), sum_of(((0,), -2), ((1,), -3)))
        self.assertEqual(scaled(one, (0, 1)), ())
        self.assertEqual(scaled((), (5, 1)), ())
        self.assertEqual(added(one, scaled(one, (-1, 1))), ())

    def test_values(self):
        chance = random.Random(3)
        for turn in range(200):
            many = chance.randint(0, 4)
            one, other, by = any_sum(chance, many, 6), any_sum(chance, many, 6), any_share(chance)
            sizes = [chance.randint(0, 9) for size in range(many)]
            self.assertTrue(is_sum(added(one, other), many))
            self.assertTrue(is_sum(scaled(one, by), many))
            self.assertEqual(value_by_hand(added(one, other), sizes),
                             value_by_hand(one, sizes) + value_by_hand(other, sizes))
            self.assertEqual(value_by_hand(scaled(one, by), sizes), fraction(by) * value_by_hand(one, sizes))


class ValueAt(unittest.TestCase):
    def test_by_hand(self):
        self.assertEqual(value_at((), []), (0, 1))
        self.assertEqual(value_at((), [4, 5]), (0, 1))
        self.assertEqual(value_at(sum_of(((), 7)), []), (7, 1))
        self.assertEqual(value_at(sum_of(((), Fraction(-7, 2))), ()), (-7, 2))
        self.assertEqual(value_at(sum_of(((0,), 1), ((1,), 1), ((2,), 1), ((3,), 1)), [5]), (1 + 5 + 10 + 10, 1))
        self.assertEqual(value_at(sum_of(((1, 2), Fraction(1, 4))), [3, 4]), (9, 2))
        self.assertEqual(value_at(sum_of(((0, 0), -3), ((1, 1), 1)), (3, 1)), (0, 1))

    def test_sizes_below_the_power(self):
        for power in range(1, 4):
            for size in range(power):
                self.assertEqual(value_at(sum_of(((power,), 5)), [size]), (0, 1))
            self.assertEqual(value_at(sum_of(((power,), 5)), [power]), (5, 1))
        self.assertEqual(value_at(sum_of(((0, 2), 5), ((1, 0), 1)), [4, 1]), (4, 1))

    def test_sizes_of_sixty_figures(self):
        self.assertEqual(value_at(sum_of(((3,), 6)), [GREAT]), (GREAT * (GREAT - 1) * (GREAT - 2), 1))
        self.assertEqual(value_at(sum_of(((1, 2), 2)), (GREAT, GREAT)), (GREAT * GREAT * (GREAT - 1), 1))
        self.assertEqual(value_at(sum_of(((1,), Fraction(1, GREAT))), [GREAT]), (1, 1))

    def test_many(self):
        chance = random.Random(4)
        for turn in range(200):
            many = chance.choice((0, 1, 2, 3, 4, 16))
            one = any_sum(chance, many, chance.randint(0, 60))
            for sizes in ([chance.randint(0, 12) for size in range(many)], [chance.randint(0, GREAT) for size in range(many)]):
                kept = list(sizes)
                told = value_at(one, sizes)
                self.assertEqual(fraction(told), value_by_hand(one, sizes))
                self.assertEqual(value_at(one, tuple(sizes)), told)
                self.assertEqual(sizes, kept)


class Covers(unittest.TestCase):
    def test_by_hand(self):
        one = sum_of(((0,), 2), ((1,), 3))
        for other, due in ((one, True), ((), True), (sum_of(((0,), 2)), True), (sum_of(((1,), 3)), True),
                           (sum_of(((0,), 3)), False), (sum_of(((0,), 2), ((1,), Fraction(31, 10))), False),
                           (sum_of(((2,), 1)), False), (sum_of(((2,), -1)), True),
                           (sum_of(((0,), -5), ((1,), 3)), True), (sum_of(((0,), -5), ((1,), 4)), False)):
            self.assertIs(covers(one, other), due)
        self.assertIs(covers((), ()), True)
        self.assertIs(covers((), one), False)
        self.assertIs(covers((), scaled(one, (-1, 1))), True)
        self.assertIs(covers(sum_of(((0,), -1)), ()), False)
        self.assertIs(covers(sum_of(((), 1)), sum_of(((), 1))), True)
        self.assertIs(covers(sum_of(((), 1)), sum_of(((), Fraction(3, 2)))), False)
        # A greater value everywhere is not enough: the ratios tell.
        self.assertIs(covers(sum_of(((0,), 9), ((1,), 9)), sum_of(((0,), 10))), False)

    def test_each_way_about(self):
        chance = random.Random(5)
        seen = set()
        for turn in range(400):
            many = chance.randint(0, 2)
            one, other = any_sum(chance, many, 2), any_sum(chance, many, 2)
            first, second = dict(one), dict(other)
            due = all(fraction(first.get(powers, (0, 1))) >= fraction(second.get(powers, (0, 1)))
                      for powers in {**first, **second})
            self.assertIs(covers(one, other), due)
            self.assertIs(covers(one, one), True)
            seen.add((due, covers(other, one)))
            if due:
                for sizes in itertools.product(range(5), repeat=many):
                    self.assertGreaterEqual(value_by_hand(one, sizes), value_by_hand(other, sizes))
        self.assertEqual(len(seen), 4)


class Lines(unittest.TestCase):
    def test_line_at(self):
        self.assertEqual(line_at((5,), []), 5)
        self.assertEqual(line_at((5, 2, 0, 1), [3, 9, 4]), 15)
        self.assertEqual(line_at([5, 2, 0, 1], (3, 9, 4)), 15)
        self.assertEqual(line_at((0, 0), (7,)), 0)
        self.assertEqual(line_at((GREAT, GREAT), (GREAT,)), GREAT + GREAT * GREAT)

    def test_line_laid_by_hand(self):
        self.assertEqual(line_laid((5,), [], 0), (5,))
        self.assertEqual(line_laid((5,), [], 3), (5, 0, 0, 0))
        self.assertEqual(line_laid((5, 2), [(1, 1, 0)], 2), (7, 2, 0))
        self.assertEqual(line_laid((1, 2, 3), [(1, 0, 4), (2, 5, 0)], 2), (9, 15, 8))
        self.assertEqual(line_laid([1, 2, 3], ([1, 0, 4], [2, 5, 0]), 2), (9, 15, 8))
        self.assertEqual(line_laid((1, 2), [(3,)], 0), (7,))

    def test_line_laid_has_the_value(self):
        chance = random.Random(6)
        for turn in range(200):
            many, other = chance.randint(0, 5), chance.randint(0, 18)
            line = any_line(chance, many, GREAT)
            lines = [any_line(chance, other, GREAT) for number in range(many)]
            told = line_laid(line, lines, other)
            self.assertIsInstance(told, tuple)
            self.assertEqual(len(told), other + 1)
            for time_again in range(3):
                sizes = [chance.randint(0, 50) for size in range(other)]
                self.assertEqual(line_at(told, sizes), line_at(line, [line_at(each, sizes) for each in lines]))


class Laid(unittest.TestCase):
    def test_by_hand(self):
        length = sum_of(((0,), 2), ((1,), 3))
        self.assertEqual(laid(length, [(1, 1)], 1), sum_of(((0,), 5), ((1,), 3)))
        self.assertEqual(laid(length, [(0, 0)], 1), sum_of(((0,), 2)))
        self.assertEqual(laid(length, [(4,)], 0), sum_of(((), 14)))
        self.assertEqual(laid(length, [(1, 1, 1)], 2), sum_of(((0, 0), 5), ((0, 1), 3), ((1, 0), 3)))
        # Two out of n + 1 things: two out of n, or the one and one of n.
        self.assertEqual(laid(sum_of(((2,), 1)), [(1, 1)], 1), sum_of(((1,), 1), ((2,), 1)))
        # Two out of 2n: out of pairs, both of one, or one of each of two.
        self.assertEqual(laid(sum_of(((2,), 1)), [(0, 2)], 1), sum_of(((1,), 1), ((2,), 4)))
        self.assertEqual(laid(sum_of(((2,), 1)), [(0, 1, 1)], 2), sum_of(((0, 2), 1), ((1, 1), 1), ((2, 0), 1)))
        self.assertEqual(laid(sum_of(((3,), 1)), [(0, 2)], 1), sum_of(((2,), 4), ((3,), 8)))
        # n times n: the n alike pairs, and two out of n in either order.
        self.assertEqual(laid(sum_of(((1, 1), 1)), [(0, 1), (0, 1)], 1), sum_of(((1,), 1), ((2,), 2)))
        self.assertEqual(laid(sum_of(((1, 2), 1)), [(0, 1), (0, 1)], 1), sum_of(((2,), 2), ((3,), 3)))
        self.assertEqual(laid(sum_of(((1, 1, 1), 1)), [(0, 1)] * 3, 1), sum_of(((1,), 1), ((2,), 6), ((3,), 6)))

    def test_no_parts_and_no_sizes(self):
        self.assertEqual(laid((), [], 0), ())
        self.assertEqual(laid((), [(1, 2), (0, 1)], 1), ())
        self.assertEqual(laid(sum_of(((), 5)), [], 0), sum_of(((), 5)))
        self.assertEqual(laid(sum_of(((), 5)), [], 3), sum_of(((0, 0, 0), 5)))
        self.assertEqual(laid(sum_of(((1,), 5)), [(0,)], 0), ())

    def test_ratios_that_cancel_out(self):
        one = sum_of(((0, 1), -1), ((1, 0), 1))
        self.assertEqual(laid(one, [(3, 1), (3, 1)], 1), ())
        self.assertEqual(laid(one, [(3, 1), (2, 1)], 1), sum_of(((0,), 1)))

    def same_value(self, chance, one, lines, many):
        kept = copy.deepcopy((one, lines))
        told = laid(one, lines, many)
        self.assertEqual((one, lines), kept)
        self.assertTrue(is_sum(told, many), told)
        self.assertEqual(laid(one, tuple(list(line) for line in lines), many), told)
        for turn in range(4):
            sizes = [chance.randint(0, 6) for size in range(many)]
            self.assertEqual(value_by_hand(told, sizes), value_by_hand(one, [line_at(line, sizes) for line in lines]))
        return told

    def test_it_has_the_value_everywhere(self):
        chance = random.Random(7)
        for turn in range(250):
            many, other = chance.randint(0, 5), chance.randint(0, 5)
            one = any_sum(chance, many, chance.randint(0, 8))
            self.same_value(chance, one, [any_line(chance, other) for number in range(many)], other)

    def test_it_has_no_ratio_below_0_where_the_first_has_none(self):
        chance = random.Random(8)
        for turn in range(150):
            many, other = chance.randint(1, 4), chance.randint(0, 4)
            told = self.same_value(chance, any_sum(chance, many, 6, 0), [any_line(chance, other) for number in range(many)],
                                   other)
            self.assertTrue(all(fraction(share) > 0 for powers, share in told))

    def test_great_numbers(self):
        chance = random.Random(9)
        for turn in range(20):
            lines = [tuple(chance.randint(0, GREAT) for number in range(3)) for line in range(2)]
            self.same_value(chance, any_sum(chance, 2, 5), lines, 2)

    def test_sixteen_sizes_and_sixty_parts(self):
        chance = random.Random(10)
        for other in (0, 3, 16, 20):
            one = any_sum(chance, 16, 60)
            self.same_value(chance, one, [any_line(chance, other) for number in range(16)], other)

    def test_it_comes_to_an_end_in_good_time(self):
        chance = random.Random(11)
        powers = [tuple(1 if place in three else 0 for place in range(16)) for three in itertools.combinations(range(16), 3)]
        one = gathered([(each, (1, 1)) for each in powers[:60]])
        lines = [tuple(chance.randint(1, 5) for number in range(17)) for line in range(16)]
        begin = time.monotonic()
        told = laid(one, lines, 16)
        self.assertLess(time.monotonic() - begin, 60)
        sizes = [chance.randint(0, 9) for size in range(16)]
        self.assertEqual(value_by_hand(told, sizes), value_by_hand(one, [line_at(line, sizes) for line in lines]))


if __name__ == "__main__":
    unittest.main()
