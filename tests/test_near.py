import copy
import itertools
import random
import time
import unittest
import unittest.mock
from fractions import Fraction

from tests.samples import EVEN, FLAT, JOIN, LENGTH, PUT, any_program, measured_program
from tests.tellers import BAD_TABLES, WORDS, fraction, sum_of, table_of, value_by_hand
from toll.errors import NoFunction, NoSize, NoTable, TooMany
from toll.finds import find
from toll.near import dearest, gap
from toll.runs import trace
from toll.tables import plain_table, price_of
from toll.texts import read
from toll.values import fits, size_of

PLAIN = plain_table()
SORT = read(
    "(fn ins ((n num) (xs list)) (list 1 0 1) (list xs (give (cons n nil)) (h t)"
    " (less n h (give (cons n xs)) (give (cons h (call ins n t))))))"
    " (fn sort ((xs list)) (list 0 1) (list xs (give nil) (h t) (give (call ins h (call sort t)))))")
HALF = read("(fn f ((xs list)) (num 0 0) (list xs (give 0) (a b) (list b (give 0) (c d) (give (call f d)))))")
KINDS = read("(fn n ((a num)) (num 0 0) (give a)) (fn l ((a list)) (num 0 0) (give 0)) (fn t ((a tree)) (num 0 0) (give 0))"
             " (fn all ((a num) (b list) (c tree) (d num)) (num 0 0 0 0 0) (give 0))")


def all_trees(size, numbers):
    if size == 0:
        return [None]
    return [(left, number, right) for less in range(size) for left in all_trees(less, numbers)
            for number in numbers for right in all_trees(size - 1 - less, numbers)]


def all_values(shape, size, numbers):
    if shape == "num":
        return list(numbers)
    return list(itertools.product(numbers, repeat=size)) if shape == "list" else all_trees(size, numbers)


def all_inputs(program, name, sizes, numbers):
    params = next(function[1] for function in program if function[0] == name)
    return [list(args) for args in itertools.product(
        *[all_values(shape, size, numbers) for (param, shape), size in zip(params, sizes)])]


class Dearest(unittest.TestCase):
    def told(self, program, name, sizes, numbers, table=PLAIN, most=None):
        """What is told, held against the runs of all inputs."""
        kept = copy.deepcopy((program, table, sizes, numbers))
        rest = () if most is None else (most,)
        told = dearest(program, table, name, sizes, numbers, *rest)
        self.assertEqual(dearest(program, table, name, sizes, numbers, *rest), told)
        self.assertEqual((program, table, sizes, numbers), kept)
        self.assertIsInstance(told, tuple)
        self.assertIsInstance(told[1], list)
        inputs = all_inputs(program, name, sizes, numbers)
        self.assertIn(told[1], inputs)
        prices = [price_of(trace(program, name, args, *rest)[3], table) for args in inputs]
        self.assertEqual(told[0], max(prices))
        self.assertEqual(price_of(trace(program, name, told[1], *rest)[3], table), told[0])
        return told

    def test_a_num(self):
        self.assertEqual(self.told(EVEN, "even", [0], [5, -3, 2]), (17, [5]))
        self.assertEqual(self.told(EVEN, "odd", [0], [0]), (2, [0]))

    def test_a_list(self):
        self.assertEqual(self.told(LENGTH, "length", [3], [7]), (11, [(7, 7, 7)]))
        self.assertEqual(self.told(LENGTH, "length", [0], [7, 8]), (2, [()]))
        self.assertEqual(self.told(LENGTH, "length", [4], [7, 8])[0], 14)
        # Dearest to sort is what falls: each number goes to the end. ins costs 3 and 4 for each one that it passes.
        self.assertEqual(self.told(SORT, "sort", [3], [1, 2, 3])[0], 29)
        self.assertEqual(self.told(SORT, "sort", [3], [5])[0], 29)
        self.assertEqual(self.told(SORT, "ins", [0, 2], [1, 2])[0], 11)

    def test_a_tree(self):
        self.assertEqual(self.told(FLAT, "flat", [0], [4]), (2, [None]))
        self.assertEqual(self.told(FLAT, "flat", [1], [4]), (10, [(None, 4, None)]))
        self.assertEqual(self.told(FLAT, "flat", [2], [4]), (21, [((None, 4, None), 4, None)]))
        self.assertEqual(self.told(PUT, "put", [9, 3], [1, 2])[0], 15)

    def test_several_params(self):
        self.assertEqual(self.told(JOIN, "join", [3, 1], [0, 1])[0], 11)
        self.assertEqual(self.told(JOIN, "join", [0, 4], [0, 1])[0], 2)
        self.told(KINDS, "all", [0, 2, 2, 0], [0, 1])

    def test_other_tables(self):
        self.assertEqual(self.told(EVEN, "even", [0], [5, 9], table_of(sum=0))[0], 20)
        self.assertEqual(self.told(PUT, "put", [0, 2], [1, 2, 3], table_of(less=100))[0], 2 * 103 + 3)
        self.assertEqual(self.told(PUT, "put", [0, 2], [1, 2], {word: 0 for word in WORDS})[0], 0)

    def test_where_a_run_is_cut_what_was_paid(self):
        self.assertEqual(self.told(EVEN, "even", [0], [1, 40])[0], 60)
        self.assertEqual(self.told(LENGTH, "length", [20], [1])[0], 40)
        self.assertEqual(self.told(LENGTH, "length", [40], [1])[0], 40)
        for most in (0, 1, 4, 5, 11, 12, 5000):
            self.assertEqual(self.told(LENGTH, "length", [3], [7], PLAIN, most)[0], min(most, 11))

    def test_a_thousand_steps_where_no_most_is_told(self):
        slow = read("(fn f ((xs list)) (num 0 0) (list xs (give 0) (h t) (give (add (call f t) (call f t)))))")
        self.assertEqual(dearest(slow, PLAIN, "f", [9], [1])[0], 1000)
        self.assertEqual(dearest(slow, PLAIN, "f", [9], [1], 5000)[0], 512 * 2 + 511 * 3)

    def test_a_size_told_for_a_num_is_not_looked_at(self):
        for size in (0, 1, 40, 41, 10 ** 50, -3, None, "x"):
            self.assertEqual(dearest(PUT, PLAIN, "put", [size, 2], [1, 2])[0], 11)

    def test_many_programs(self):
        chance = random.Random(51)
        for turn in range(120):
            program = measured_program(chance) if turn % 2 else any_program(chance)
            for name, params, gives, body in program[:2]:
                sizes = [chance.randint(0, 2) for param in params]
                numbers = chance.sample(range(-9, 9), chance.randint(1, 2))
                table = {word: chance.randint(0, 9) for word in WORDS}
                if len(all_inputs(program, name, sizes, numbers)) <= 100:
                    self.told(program, name, sizes, numbers, table, chance.choice((10, 100, 1000)))

    def test_what_is_told_is_new(self):
        first = dearest(JOIN, PLAIN, "join", [1, 1], [5])
        first[1].clear()
        self.assertEqual(dearest(JOIN, PLAIN, "join", [1, 1], [5]), (5, [(5,), (5,)]))


class Many(unittest.TestCase):
    def taken(self, name, sizes, many):
        told = dearest(KINDS, PLAIN, name, sizes, list(range(many)))
        self.assertEqual(told[0], 1)
        params = next(function[1] for function in KINDS if function[0] == name)
        for (param, shape), size, arg in zip(params, sizes, told[1]):
            self.assertTrue(fits(shape, arg))
            if shape != "num":
                self.assertEqual(size_of(shape, arg), size)

    def refused(self, name, sizes, many):
        begin = time.monotonic()
        with unittest.mock.patch("toll.near.trace", side_effect=AssertionError("a run")):
            with self.assertRaises(TooMany):
                dearest(KINDS, PLAIN, name, sizes, list(range(many)))
            with self.assertRaises(TooMany):
                gap(KINDS, PLAIN, {}, name, sizes, list(range(many)))
        self.assertLess(time.monotonic() - begin, 10)

    def test_nums(self):
        self.taken("n", [0], 243)
        self.refused("n", [0], 244)
        self.refused("n", [40], 2000)

    def test_lists(self):
        self.taken("l", [5], 3)
        self.taken("l", [1], 243)
        self.taken("l", [40], 1)
        self.taken("l", [0], 2000)
        self.taken("l", [7], 2)
        self.refused("l", [1], 244)
        self.refused("l", [8], 2)
        self.refused("l", [6], 3)
        self.refused("l", [40], 2)
        self.refused("l", [40], 2000)

    def test_trees(self):
        self.taken("t", [0], 2000)
        self.taken("t", [1], 243)
        self.taken("t", [2], 11)
        self.taken("t", [3], 3)
        self.taken("t", [4], 2)
        self.taken("t", [6], 1)
        self.refused("t", [1], 244)
        self.refused("t", [2], 12)
        self.refused("t", [3], 4)
        self.refused("t", [5], 2)
        self.refused("t", [7], 1)
        self.refused("t", [40], 1)
        self.refused("t", [40], 2000)

    def test_all_together(self):
        self.taken("all", [0, 2, 1, 0], 3)
        self.taken("all", [0, 3, 0, 0], 3)
        self.refused("all", [0, 2, 2, 0], 3)
        self.taken("all", [0, 40, 6, 0], 1)
        self.refused("all", [0, 40, 7, 0], 1)
        self.refused("all", [0, 0, 0, 0], 16)
        self.taken("all", [0, 0, 0, 0], 15)
        self.refused("all", [0, 40, 40, 0], 40)


class Refused(unittest.TestCase):
    def test_in_their_order(self):
        numbers = [1, 2]
        for table in BAD_TABLES:
            for name, sizes in (("length", [1]), ("f", [1]), ("length", [40]), ("f", [40])):
                with self.assertRaises(NoTable):
                    dearest(LENGTH, table, name, sizes, numbers)
                with self.assertRaises(NoTable):
                    gap(LENGTH, table, {}, name, sizes, numbers)
        for name in ("f", "", "Length", "xs"):
            for sizes in ([1], [40], [1, 1], []):
                with self.assertRaises(NoFunction):
                    dearest(LENGTH, PLAIN, name, sizes, numbers)
                with self.assertRaises(NoFunction):
                    gap(LENGTH, PLAIN, {}, name, sizes, numbers)
        with self.assertRaises(TooMany):
            dearest(LENGTH, PLAIN, "length", [40], numbers)


def flat_sum(*numbers):
    return sum_of(*[((power,), number) for power, number in enumerate(numbers) if number])


class Gap(unittest.TestCase):
    def test_by_hand(self):
        paper = {"f": (flat_sum(2, Fraction(3, 2)), flat_sum(2, 1))}
        for size, due in ((0, (0, 1)), (1, (1, 2)), (2, (0, 1)), (3, (1, 2)), (4, (0, 1))):
            self.assertEqual(gap(HALF, PLAIN, paper, "f", [size], [1]), due)
        generous = {"length": (flat_sum(5, 3, 2), flat_sum(2, 2))}
        self.assertEqual(gap(LENGTH, PLAIN, generous, "length", [3], [1, 2]), (9, 1))
        self.assertEqual(gap(LENGTH, PLAIN, generous, "length", [3], [1, 2], 4), (16, 1))
        self.assertEqual(gap(LENGTH, PLAIN, generous, "length", [3], [1, 2], 0), (20, 1))

    def test_a_thousand_steps_where_no_most_is_told(self):
        slow = read("(fn f ((xs list)) (num 0 0) (list xs (give 0) (h t) (give (add (call f t) (call f t)))))")
        paper = {"f": (flat_sum(2, 5000), flat_sum(9, 9))}
        self.assertEqual(gap(slow, PLAIN, paper, "f", [9], [1]), (45002 - 1000, 1))
        self.assertEqual(gap(slow, PLAIN, paper, "f", [9], [1], 5000), (45002 - 2557, 1))

    def test_a_size_told_for_a_num_is_not_looked_at(self):
        paper = {"put": (sum_of(((0, 0), 4), ((0, 1), 4)), sum_of(((0, 0), 3), ((0, 1), 3)))}
        for size in (0, 40, 10 ** 59, -1, None):
            self.assertEqual(gap(PUT, PLAIN, paper, "put", [size, 2], [1, 2]), (1, 1))

    def test_never_below_0(self):
        chance = random.Random(52)
        seen = set()
        for turn in range(150):
            program = measured_program(chance)
            table = {word: chance.randint(0, 9) for word in WORDS}
            try:
                found = [find(program, table, 2, 5, kind) for kind in ("price", "room")]
            except (NoSize, TooMany):
                continue
            if found[0][0] == found[1][0] == "bound":
                paper = {name: (found[0][1][name], found[1][1][name]) for name in found[0][1]}
                for name, params, gives, body in program:
                    sizes = [chance.randint(0, 2) for param in params]
                    if len(all_inputs(program, name, sizes, [0, 3])) <= 243:
                        told = fraction(gap(program, table, paper, name, sizes, [0, 3]))
                        self.assertGreaterEqual(told, 0)
                        self.assertEqual(told, value_by_hand(paper[name][0], sizes)
                                         - dearest(program, table, name, sizes, [0, 3])[0])
                        seen.add(told > 0)
        self.assertEqual(seen, {True, False})


if __name__ == "__main__":
    unittest.main()
