import copy
import itertools
import random
import time
import unittest
from fractions import Fraction

from tests.tellers import fraction, ratio_of
from toll.errors import TooMany
from toll.least import least


def system(costs, *rows):
    """Costs and rows of plain numbers: a row is a list of numbers with the bound behind them."""
    return ([ratio_of(cost) for cost in costs],
            [([ratio_of(number) for number in row[:-1]], ratio_of(row[-1])) for row in rows])


def by_corners(costs, rows):
    """The least value, by a look at each corner; None where there is none. For few unknowns."""
    many = len(costs)
    flat = [([fraction(number) for number in numbers], fraction(bound)) for numbers, bound in rows]
    flat += [([Fraction(int(place == other)) for other in range(many)], Fraction(0)) for place in range(many)]
    values = []
    for chosen in itertools.combinations(flat, many):
        point = solved(chosen, many)
        if point is not None and all(sum(n * u for n, u in zip(row, point)) >= bound for row, bound in flat):
            values.append(sum((fraction(cost) * u for cost, u in zip(costs, point)), Fraction(0)))
    return min(values, default=None)


def solved(rows, many):
    table = [list(numbers) + [bound] for numbers, bound in rows]
    for place in range(many):
        pivot = next((row for row in range(place, many) if table[row][place]), None)
        if pivot is None:
            return None
        table[place], table[pivot] = table[pivot], table[place]
        table[place] = [number / table[place][place] for number in table[place]]
        for row in range(many):
            if row != place:
                table[row] = [n - table[row][place] * p for n, p in zip(table[row], table[place])]
    return [row[-1] for row in table]


class Checked(unittest.TestCase):
    def told(self, costs, rows):
        """What is told, once all that it says of itself was checked."""
        kept = copy.deepcopy((costs, rows))
        told = least(costs, rows)
        self.assertEqual((costs, rows), kept)
        weights = [fraction(one) for one in told[-1]]
        self.assertIsInstance(told[-1], list)
        self.assertEqual(len(weights), len(rows))
        self.assertTrue(all(weight >= 0 for weight in weights))
        columns = [sum((fraction(row[0][place]) * weight for row, weight in zip(rows, weights)), Fraction(0))
                   for place in range(len(costs))]
        shown = sum((fraction(row[1]) * weight for row, weight in zip(rows, weights)), Fraction(0))
        if told[0] == "none":
            self.assertEqual(len(told), 2)
            self.assertTrue(all(column <= 0 for column in columns))
            self.assertGreater(shown, 0)
            return told
        self.assertEqual((told[0], len(told)), ("least", 4))
        unknowns = [fraction(one) for one in told[2]]
        self.assertIsInstance(told[2], list)
        self.assertEqual(len(unknowns), len(costs))
        self.assertTrue(all(unknown >= 0 for unknown in unknowns))
        for numbers, bound in rows:
            self.assertGreaterEqual(sum(fraction(n) * u for n, u in zip(numbers, unknowns)), fraction(bound))
        self.assertEqual(sum((fraction(c) * u for c, u in zip(costs, unknowns)), Fraction(0)), fraction(told[1]))
        self.assertTrue(all(column <= fraction(cost) for column, cost in zip(columns, costs)))
        self.assertEqual(shown, fraction(told[1]))
        return told

    def value(self, costs, *rows):
        told = self.told(*system(costs, *rows))
        return fraction(told[1]) if told[0] == "least" else None


class ByHand(Checked):
    def test_no_unknowns_and_no_rows(self):
        self.assertEqual(least([], []), ("least", (0, 1), [], []))
        self.assertEqual(self.value([3, 0, 5]), 0)
        self.assertEqual(least([(3, 1), (0, 1)], [])[1:3], ((0, 1), [(0, 1), (0, 1)]))
        self.assertEqual(self.value([], [0], [-3]), 0)
        self.assertIsNone(self.value([], [1]))
        self.assertIsNone(self.value([], [0], [-3], [Fraction(1, 9)], [5]))

    def test_one_unknown(self):
        self.assertEqual(self.value([2], [1, 3]), 6)
        self.assertEqual(self.value([2], [4, 3]), Fraction(3, 2))
        self.assertEqual(self.value([2], [1, 3], [1, 5], [1, 4]), 10)
        self.assertEqual(self.value([2], [1, -3]), 0)
        self.assertEqual(self.value([2], [-1, -3]), 0)
        self.assertEqual(self.value([2], [-1, -3], [1, 3]), 6)
        self.assertIsNone(self.value([2], [-1, -3], [1, 4]))
        self.assertIsNone(self.value([2], [-1, 1]))
        self.assertIsNone(self.value([0], [0, 1]))
        self.assertEqual(self.value([0], [1, 7]), 0)

    def test_two_unknowns(self):
        self.assertEqual(self.value([1, 1], [2, 1, 4], [1, 2, 5]), 3)
        self.assertEqual(self.value([3, 2], [1, 1, 10], [1, 0, 2], [0, 1, 3]), 22)
        self.assertEqual(self.value([1, 5], [1, -1, 0], [0, 1, 2]), 12)
        self.assertEqual(self.value([Fraction(1, 2), Fraction(1, 3)], [Fraction(1, 5), Fraction(1, 7), 1]), Fraction(7, 3))
        self.assertIsNone(self.value([1, 1], [1, -1, 1], [-1, 1, 1]))
        self.assertIsNone(self.value([1, 1], [-1, -1, 1]))

    def test_the_unknowns_where_there_are_just_one(self):
        told = self.told(*system([1, 1], [2, 1, 4], [1, 2, 5]))
        self.assertEqual(told, ("least", (3, 1), [(1, 1), (2, 1)], [(1, 3), (1, 3)]))

    def test_rows_of_noughts(self):
        self.assertEqual(self.value([1, 2], [0, 0, 0], [0, 0, -4], [1, 1, 2]), 2)
        self.assertIsNone(self.value([1, 2], [0, 0, Fraction(1, 100)], [1, 1, 2]))

    def test_costs_of_0(self):
        self.assertEqual(self.value([0, 0], [1, -2, 5], [0, 1, 3]), 0)
        self.assertEqual(self.value([0, 1], [1, 1, 5]), 0)
        self.assertEqual(self.value([0, 1], [1, 1, 5], [-1, 0, -2]), 3)
        self.assertIsNone(self.value([0, 0], [1, -2, 5], [-1, 1, 3]))

    def test_bounds_below_0(self):
        self.assertEqual(self.value([1, 1], [-1, 0, -5], [0, -1, -4], [1, 1, 8]), 8)
        self.assertIsNone(self.value([1, 1], [-1, 0, -5], [0, -1, -4], [1, 1, 10]))
        self.assertEqual(self.value([1, 1], [-1, 0, -5], [0, -1, -4], [1, 1, 9]), 9)

    def test_rows_told_twice_and_rows_that_depend_on_one_another(self):
        self.assertEqual(self.value([1, 1], [1, 1, 3], [1, 1, 3], [2, 2, 6], [3, 3, 9], [1, 0, 1], [2, 1, 4]), 3)
        self.assertEqual(self.value([1, 2, 3], [1, 1, 0, 2], [0, 1, 1, 2], [1, 2, 1, 4], [1, 0, -1, 0]), 4)

    def test_rows_against_one_another(self):
        self.assertIsNone(self.value([1, 1], [1, 0, 2], [0, 1, 2], [-1, -1, -3]))
        self.assertEqual(self.value([1, 1], [1, 0, 2], [0, 1, 2], [-1, -1, -4]), 4)

    def test_great_numbers(self):
        great = 10 ** 60 - 1
        self.assertEqual(self.value([great], [1, great]), great * great)
        self.assertEqual(self.value([Fraction(1, great)], [great, 1]), Fraction(1, great * great))
        self.assertEqual(self.value([great, 1], [great, 1, great], [1, great, great]), great)
        self.assertEqual(self.value([1, 1], [great, 1, great + 1], [1, great, great + 1]), 2)

    def test_what_is_told_is_new_and_the_same(self):
        costs, rows = system([1, 1, 2], [1, 1, 1, 2], [2, 0, 1, 2], [1, 1, 0, 1])
        first = least(costs, rows)
        due = copy.deepcopy(first)
        first[2].clear()
        first[3].clear()
        self.assertEqual(least(costs, rows), due)


class Degenerate(Checked):
    def test_systems_that_lead_in_a_circle(self):
        # The weights of these are the well-known ones over which a careless search never ends.
        half, ninth = Fraction(1, 2), Fraction(9)
        self.assertEqual(self.value([0, 0, 1], [half, half, 1, 10], [-Fraction(11, 2), -Fraction(3, 2), 0, -57],
                                    [-Fraction(5, 2), -half, 0, -9], [ninth, 1, 0, -24]), 1)
        self.assertEqual(self.value(
            [0, 0, 1], [Fraction(1, 4), half, 0, Fraction(3, 4)], [-60, -90, 0, -150],
            [-Fraction(1, 25), -Fraction(1, 50), 1, Fraction(1, 50)], [9, 3, 0, -6]), Fraction(1, 20))

    def test_many_rows_met_just_so_at_once(self):
        for many in (3, 5, 8):
            rows = [[int(place in some) for place in range(many)] + [len(some)]
                    for size in range(1, many + 1) for some in itertools.combinations(range(many), size)]
            self.assertEqual(self.value([1] * many, *rows), many)
            self.assertEqual(self.value([0] * many, *rows), 0)

    def test_ties_everywhere(self):
        chance = random.Random(12)
        for turn in range(300):
            many = chance.randint(1, 6)
            rows = [[chance.choice((-1, 0, 0, 1)) for number in range(many)] + [chance.choice((0, 0, 0, 1))]
                    for row in range(chance.randint(1, 14))]
            self.value([chance.choice((0, 1)) for cost in range(many)], *rows)


class Many(Checked):
    def any_system(self, chance, many, rows, wide):
        def number(low):
            return Fraction(chance.randint(low, wide), chance.randint(1, 3))

        return system([number(0) for cost in range(many)],
                      *[[number(-wide) for place in range(many)] + [number(-wide)] for row in range(rows)])

    def test_by_a_look_at_each_corner(self):
        chance = random.Random(13)
        seen = {"least": 0, "none": 0}
        for turn in range(300):
            costs, rows = self.any_system(chance, chance.randint(0, 3), chance.randint(0, 5), chance.choice((1, 2, 6)))
            told = self.told(costs, rows)
            value = by_corners(costs, rows)
            self.assertEqual(told[0], "none" if value is None else "least")
            if value is not None:
                self.assertEqual(fraction(told[1]), value)
            seen[told[0]] += 1
        self.assertGreater(min(seen.values()), 40)

    def test_many_systems(self):
        chance = random.Random(14)
        for turn in range(300):
            costs, rows = self.any_system(chance, chance.randint(0, 9), chance.randint(0, 25), chance.choice((1, 3, 50)))
            self.told(costs, rows)

    def test_great_numbers(self):
        chance = random.Random(15)
        for turn in range(20):
            costs, rows = self.any_system(chance, chance.randint(1, 6), chance.randint(1, 10), 10 ** 59)
            self.told(costs, rows)

    def test_twenty_four_unknowns_in_good_time(self):
        chance = random.Random(16)
        for rows, low in ((24, -9), (100, -3), (500, -3), (500, -1), (500, -9)):
            costs = [chance.randint(0, 9) for cost in range(24)]
            told = system(costs, *[[chance.randint(low, 9) for place in range(24)] + [chance.randint(0, 9)]
                                   for row in range(rows)])
            begin = time.monotonic()
            least(*told)
            self.assertLess(time.monotonic() - begin, 60)
            self.told(*told)


class Refused(Checked):
    def test_twenty_five_unknowns(self):
        for many in (25, 26, 100):
            costs = [(1, 1)] * many
            for rows in ([], [([(1, 1)] * many, (1, 1))], [([(0, 1)] * many, (1, 1))] * 3):
                with self.assertRaises(TooMany):
                    least(costs, rows)

    def test_twenty_four_are_not_refused(self):
        self.assertEqual(self.value([1] * 24), 0)
        self.assertEqual(self.value([1] * 24, [1] * 24 + [5]), 5)


if __name__ == "__main__":
    unittest.main()
