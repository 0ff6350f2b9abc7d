import copy
import random
import time
import unittest
from fractions import Fraction

from tests.samples import EVEN, FLAT, JOIN, LENGTH, PUT, any_program, measured_program
from tests.tellers import BAD_TABLES, WORDS, fraction, is_sum, ratio_of, sum_of, table_of, value_by_hand
from toll.errors import NoSize, NoTable, TooMany
from toll.finds import find, rows_for
from toll.papers import fault_of
from toll.sums import gathered
from toll.tables import plain_table
from toll.texts import read

PLAIN = plain_table()

SORT = read(
    "(fn ins ((n num) (xs list)) (list 1 0 1) (list xs (give (cons n nil)) (h t)"
    " (less n h (give (cons n xs)) (give (cons h (call ins n t))))))"
    " (fn sort ((xs list)) (list 0 1) (list xs (give nil) (h t) (give (call ins h (call sort t)))))")
TURN = read("(fn turn ((xs list) (ys list)) (list 0 1 1) (list xs (give ys) (h t) (give (call turn t (cons h ys)))))")
WALK = read("(fn walk ((t tree)) (num 0 0) (tree t (give 0) (l v r) (give (add (call walk l) (add v (call walk r))))))")
PAIRS = read(
    "(fn one ((n num) (ys list)) (num 0 0 0) (list ys (give 0) (h t) (give (add n (call one n t)))))"
    " (fn all ((xs list) (ys list)) (num 0 0 0) (list xs (give 0) (h t) (give (add (call one h ys) (call all t ys)))))")
# Each of the first list's numbers with each pair of the rest of it.
CUBE = read(
    "(fn a ((xs list)) (num 0 0) (list xs (give 0) (h t) (give (add (call b t) (call a t)))))"
    " (fn b ((xs list)) (num 0 0) (list xs (give 0) (h t) (give (add (call c t) (call b t)))))"
    " (fn c ((xs list)) (num 0 0) (list xs (give 0) (h t) (give (call c t))))")
ENDLESS = read("(fn f ((xs list)) (num 0 0) (give (call f xs)))")
SHORT = "(fn {0} ((xs list)) (list 0 1) (list xs (give nil) (h t) (less h 0 (give t) (give (cons 1 (cons h t))))))"
HALF = read("(fn f ((xs list)) (num 0 0) (list xs (give 0) (a b) (list b (give 0) (c d) (give (call f d)))))")

HOLDING = (LENGTH, JOIN, PUT, EVEN, FLAT, SORT, TURN, WALK, PAIRS, CUBE, ENDLESS, HALF)


def flat_sum(*numbers):
    return sum_of(*[((power,), number) for power, number in enumerate(numbers) if number])


class Unknowns(unittest.TestCase):
    def test_by_hand(self):
        self.assertEqual(rows_for(LENGTH, PLAIN, 0)[0], [("length", (0,))])
        self.assertEqual(rows_for(LENGTH, PLAIN, 3)[0], [("length", (power,)) for power in range(4)])
        self.assertEqual(rows_for(EVEN, PLAIN, 3)[0], [("even", (0,)), ("odd", (0,))])
        self.assertEqual(rows_for(PUT, PLAIN, 2)[0], [("put", (0, power)) for power in range(3)])
        self.assertEqual(rows_for(JOIN, PLAIN, 1)[0], [("join", powers) for powers in ((0, 0), (0, 1), (1, 0))])
        self.assertEqual(rows_for(JOIN, PLAIN, 2)[0],
                         [("join", powers) for powers in ((0, 0), (0, 1), (0, 2), (1, 0), (1, 1), (2, 0))])
        self.assertEqual(rows_for(FLAT, PLAIN, 1)[0], [
            ("flat", (0,)), ("flat", (1,)), ("join", (0, 0)), ("join", (0, 1)), ("join", (1, 0))])

    def test_four_params_with_nums_among_them(self):
        program = read("(fn f ((a list) (n num) (t tree) (m num)) (num 0 0 0 0 0) (give 0))")
        for kind in ("price", "room"):
            self.assertEqual(rows_for(program, PLAIN, 3, kind)[0], [
                ("f", (one, 0, two, 0)) for one in range(4) for two in range(4 - one)])

    def test_they_are_the_same_for_price_and_room(self):
        for program in HOLDING:
            for power in range(4):
                self.assertEqual(rows_for(program, PLAIN, power, "room")[0], rows_for(program, PLAIN, power)[0])

    def test_more_than_twenty_four_are_told(self):
        program = read("(fn f ((a list) (b list) (c list) (d list)) (num 0 0 0 0 0) (give 0))")
        unknowns, rows = rows_for(program, PLAIN, 3)
        self.assertEqual(len(unknowns), 35)
        self.assertTrue(all(len(numbers) == 35 for numbers, bound in rows))


class Rows(unittest.TestCase):
    def paper_of(self, program, unknowns, shares, kind):
        sums = {function[0]: gathered([(powers, share) for (name, powers), share in zip(unknowns, shares)
                                       if name == function[0]]) for function in program}
        return {name: (one, ()) if kind == "price" else ((), one) for name, one in sums.items()}

    def met(self, rows, shares):
        return all(sum((fraction(number) * fraction(share) for number, share in zip(numbers, shares)), Fraction(0))
                   >= fraction(bound) for numbers, bound in rows)

    def same(self, program, table, power, kind, tries, chance):
        """Rows are met just where the paper has no fault, the other kind having no prices."""
        table = {word: table[word] if (word == "hold") == (kind == "room") else 0 for word in WORDS}
        unknowns, rows = rows_for(program, table, power, kind)
        self.assertEqual(rows_for(program, table, power, kind), (unknowns, rows))
        found = find(program, table, power, 10, kind) if len(unknowns) <= 24 else ("none",)
        seen = set()
        for turn in range(tries):
            shares = [ratio_of(Fraction(chance.choice((0, 1, 2, 3, 8, chance.randint(0, 30))), chance.choice((1, 1, 2))))
                      for unknown in unknowns]
            if found[0] == "bound" and turn % 4:
                shares = [dict(found[1][name]).get(powers, (0, 1)) for name, powers in unknowns]
                place = chance.randrange(len(shares))
                moved = fraction(shares[place]) + Fraction(chance.randint(-2, 2), chance.choice((1, 3)))
                shares[place] = ratio_of(max(moved, 0))
            fault = fault_of(program, table, self.paper_of(program, unknowns, shares, kind))
            self.assertEqual(self.met(rows, shares), fault is None, (program, power, kind, shares, fault))
            seen.add(fault is None)
        return seen

    def test_samples(self):
        chance = random.Random(41)
        for program in HOLDING:
            for power in range(4):
                for kind in ("price", "room"):
                    self.same(program, PLAIN, power, kind, 25, chance)
        self.assertEqual(self.same(SORT, PLAIN, 2, "price", 60, chance), {True, False})
        self.assertEqual(self.same(SORT, PLAIN, 2, "room", 60, chance), {True, False})

    def test_many_programs(self):
        chance = random.Random(42)
        seen = set()
        for turn in range(150):
            program = measured_program(chance) if turn % 2 else any_program(chance)
            table = {word: chance.randint(0, 4) for word in WORDS}
            for kind in ("price", "room"):
                try:
                    seen |= self.same(program, table, chance.randint(0, 2), kind, 8, chance)
                except NoSize:
                    pass
        self.assertEqual(seen, {True, False})

    def test_a_row_has_a_number_for_each_unknown(self):
        for program in HOLDING:
            for kind in ("price", "room"):
                unknowns, rows = rows_for(program, PLAIN, 2, kind)
                for numbers, bound in rows:
                    self.assertIsInstance(numbers, list)
                    self.assertEqual(len(numbers), len(unknowns))
                    for one in numbers + [bound]:
                        fraction(one)

    def test_what_is_told_is_new(self):
        first = rows_for(SORT, PLAIN, 2)
        due = copy.deepcopy(first)
        for numbers, bound in first[1]:
            numbers.clear()
        first[0].clear()
        first[1].clear()
        self.assertEqual(rows_for(SORT, PLAIN, 2), due)


class Found(unittest.TestCase):
    def check(self, program, table, power, size, kind):
        """What is found, once all that is told with it was checked."""
        kept = copy.deepcopy((program, table))
        told = find(program, table, power, size, kind)
        self.assertEqual((program, table), kept)
        if kind == "price":
            self.assertEqual(find(program, table, power, size), told)
        unknowns, rows = rows_for(program, table, power, kind)
        weights = [fraction(one) for one in told[-1]]
        self.assertEqual(len(weights), len(rows))
        self.assertTrue(all(weight >= 0 for weight in weights))
        columns = [sum((fraction(row[0][place]) * weight for row, weight in zip(rows, weights)), Fraction(0))
                   for place in range(len(unknowns))]
        shown = sum((fraction(row[1]) * weight for row, weight in zip(rows, weights)), Fraction(0))
        if told[0] == "none":
            self.assertEqual(len(told), 2)
            self.assertTrue(all(column <= 0 for column in columns))
            self.assertGreater(shown, 0)
            return told
        self.assertEqual((told[0], len(told)), ("bound", 4))
        self.assertEqual(list(told[1]), [function[0] for function in program])
        value = Fraction(0)
        for name, params, gives, body in program:
            one = told[1][name]
            self.assertTrue(is_sum(one, len(params)))
            self.assertTrue(all(fraction(share) > 0 for powers, share in one))
            self.assertTrue(all((name, powers) in unknowns for powers, share in one))
            value += value_by_hand(one, [0 if shape == "num" else size for param, shape in params])
        self.assertEqual(fraction(told[2]), value)
        self.assertEqual(shown, value)
        costs = [value_by_hand(((powers, (1, 1)),), [size] * len(powers)) for name, powers in unknowns]
        self.assertTrue(all(column <= cost for column, cost in zip(columns, costs)))
        return told

    def found(self, program, power, size, kind, **sums):
        told = self.check(program, PLAIN, power, size, kind)
        self.assertEqual(told[0], "bound")
        self.assertEqual(told[1], sums)

    def none(self, program, power, kind, table=PLAIN):
        self.assertEqual(self.check(program, table, power, 10, kind)[0], "none")


class ByHand(Found):
    def test_a_list_is_summed(self):
        for power in (1, 2, 3):
            self.found(LENGTH, power, 10, "price", length=flat_sum(2, 3))
            self.found(LENGTH, power, 10, "room", length=flat_sum(2, 2))
        self.assertEqual(find(LENGTH, PLAIN, 1, 10)[2], (32, 1))
        self.assertEqual(find(LENGTH, PLAIN, 1, 0)[2], (2, 1))
        self.assertEqual(find(LENGTH, PLAIN, 1, 1000, "room")[2], (2002, 1))
        self.none(LENGTH, 0, "price")
        self.none(LENGTH, 0, "room")

    def test_a_list_is_turned_onto_another(self):
        self.found(TURN, 1, 10, "price", turn=sum_of(((0, 0), 2), ((1, 0), 3)))
        self.found(TURN, 1, 10, "room", turn=sum_of(((0, 0), 3), ((1, 0), 3)))
        self.assertEqual(find(TURN, PLAIN, 2, 7)[2], (23, 1))

    def test_sorting_by_putting_in(self):
        for power in (2, 3):
            self.found(SORT, power, 10, "price", ins=sum_of(((0, 0), 3), ((0, 1), 4)), sort=flat_sum(2, 5, 4))
        self.assertEqual(find(SORT, PLAIN, 2, 10)[2], (43 + 2 + 50 + 180, 1))
        self.none(SORT, 0, "price")
        self.none(SORT, 1, "price")
        for power in (1, 2):
            self.found(SORT, power, 10, "room", ins=sum_of(((0, 0), 3), ((0, 1), 3)), sort=flat_sum(2, 3))
        self.assertEqual(find(SORT, PLAIN, 1, 10, "room")[2], (65, 1))

    def test_a_tree_is_walked(self):
        self.found(WALK, 1, 10, "price", walk=flat_sum(2, 6))
        self.found(WALK, 1, 10, "room", walk=flat_sum(2, 2))
        self.found(FLAT, 2, 10, "price", flat=flat_sum(2, 8, 3), join=sum_of(((0, 0), 2), ((1, 0), 3)))
        self.none(FLAT, 1, "price")
        self.found(FLAT, 1, 10, "room", flat=flat_sum(2, 3), join=sum_of(((0, 0), 3), ((1, 0), 3)))

    def test_a_product_of_two_sizes(self):
        self.found(PAIRS, 2, 10, "price", one=sum_of(((0, 0), 2), ((0, 1), 3)),
                   all=sum_of(((0, 0), 2), ((1, 0), 5), ((1, 1), 3)))
        self.none(PAIRS, 1, "price")

    def test_a_power_of_three(self):
        self.none(CUBE, 2, "price")
        self.found(CUBE, 3, 10, "price", a=flat_sum(2, 5, 5, 2), b=flat_sum(2, 5, 2), c=flat_sum(2, 2))
        self.found(CUBE, 1, 10, "room", a=flat_sum(2, 2), b=flat_sum(2, 2), c=flat_sum(2, 2))

    def test_a_ratio_that_is_no_whole_number(self):
        told = self.check(HALF, PLAIN, 1, 10, "price")
        self.assertEqual(told[1:3], ({"f": flat_sum(2, Fraction(3, 2))}, (17, 1)))
        self.assertEqual(self.check(HALF, PLAIN, 1, 0, "price")[2], (2, 1))

    def test_the_told_size_chooses(self):
        program = read("(fn f ((xs list)) (num 0 0) (list xs (give 0) (h t) (give (add (add (add 1 2) 3) 4))))")
        self.assertEqual(find(program, PLAIN, 1, 0)[1:3], ({"f": flat_sum(2, 3)}, (2, 1)))
        self.assertEqual(find(program, PLAIN, 1, 9)[1:3], ({"f": flat_sum(5)}, (5, 1)))
        self.assertEqual(find(program, PLAIN, 0, 9)[1:3], ({"f": flat_sum(5)}, (5, 1)))

    def test_no_end_no_sum(self):
        for power in range(4):
            self.none(ENDLESS, power, "price")
            self.none(ENDLESS, power, "room")
            self.none(EVEN, power, "price")

    def test_prices_of_0(self):
        nothing = {word: 0 for word in WORDS}
        for program in HOLDING:
            for kind in ("price", "room"):
                told = self.check(program, nothing, 1, 10, kind)
                self.assertEqual(told[:3], ("bound", {function[0]: () for function in program}, (0, 1)))
        self.assertEqual(self.check(LENGTH, {**nothing, "sum": 1}, 1, 10, "price")[1], {"length": flat_sum(0, 1)})
        self.none(ENDLESS, 1, "price", {**nothing, "call": 1})
        self.assertEqual(self.check(ENDLESS, {**nothing, "open": 1, "hold": 1}, 1, 10, "price")[2], (0, 1))

    def test_only_hold_counts_for_the_room_and_never_for_the_price(self):
        self.assertEqual(find(LENGTH, table_of(hold=7), 1, 10)[1], {"length": flat_sum(2, 3)})
        self.assertEqual(find(LENGTH, table_of(hold=7), 1, 10, "room")[1], {"length": flat_sum(14, 14)})
        self.assertEqual(find(LENGTH, table_of(call=7), 1, 10, "room")[1], {"length": flat_sum(2, 2)})
        self.assertEqual(find(LENGTH, table_of(call=7), 1, 10)[1], {"length": flat_sum(8, 9)})

    def test_what_is_told_is_new_and_the_same(self):
        first = find(SORT, PLAIN, 2, 10)
        due = copy.deepcopy(first)
        first[1].clear()
        first[3].clear()
        self.assertEqual(find(SORT, PLAIN, 2, 10), due)


class Promised(Found):
    def holding(self, program, table, power, size):
        found = [self.check(program, table, power, size, kind) for kind in ("price", "room")]
        if found[0][0] == found[1][0] == "bound":
            paper = {name: (found[0][1][name], found[1][1][name]) for name in found[0][1]}
            self.assertIsNone(fault_of(program, table, paper))
        return found

    def test_what_is_found_makes_a_paper_that_holds(self):
        for program in HOLDING:
            for power in range(4):
                for size in (0, 1, 3, 1000):
                    self.holding(program, PLAIN, power, size)

    def test_many_programs(self):
        chance = random.Random(43)
        ends = {"bound": 0, "none": 0}
        for turn in range(300):
            program = measured_program(chance) if turn % 3 else any_program(chance)
            table = {word: chance.randint(0, 10 ** chance.choice((0, 1, 30))) for word in WORDS}
            try:
                for told in self.holding(program, table, chance.randint(0, 3), chance.choice((0, 1, 2, 10, 1000))):
                    ends[told[0]] += 1
            except (NoSize, TooMany):
                pass
        self.assertGreater(min(ends.values()), 30)

    def test_all_prices_times_a_number(self):
        chance = random.Random(44)
        for program in HOLDING:
            table = {word: chance.randint(0, 9) for word in WORDS}
            for by in (1, 2, 7, 10 ** 20):
                more = {word: price * by for word, price in table.items()}
                for kind in ("price", "room"):
                    for power in (1, 2):
                        first = find(program, table, power, 10, kind)
                        second = find(program, more, power, 10, kind)
                        self.assertEqual(first[0], second[0])
                        if first[0] == "bound":
                            self.assertEqual(fraction(second[2]), by * fraction(first[2]))

    def test_a_greater_power_never_tells_more(self):
        for program in HOLDING:
            for kind in ("price", "room"):
                values = [find(program, PLAIN, power, 10, kind) for power in range(4)]
                for lower, higher in zip(values, values[1:]):
                    if lower[0] == "bound":
                        self.assertEqual(higher[0], "bound")
                        self.assertLessEqual(fraction(higher[2]), fraction(lower[2]))


MANY = "(fn {0} ((a list) (b list) (c list) (d list)) (num 0 0 0 0 0) (give 0))"


class Refused(unittest.TestCase):
    def refused(self, error, program, table, power, size=10):
        caught = []
        for kind in ("price", "room"):
            asks = [lambda: find(program, table, power, size, kind)]
            if error is not TooMany:
                asks.append(lambda: rows_for(program, table, power, kind))
            for ask in asks:
                with self.assertRaises(error) as one:
                    ask()
                self.assertIs(one.exception.__class__, error)
                caught.append(one.exception)
        return caught

    def test_wrong_tables(self):
        short = read(SHORT.format("f"))
        many = read(" ".join(MANY.format(name) for name in "abcdef"))
        for table in BAD_TABLES:
            self.refused(NoTable, LENGTH, table, 1)
            self.refused(NoTable, short, table, 1)
            self.refused(NoTable, many, table, 1)

    def test_sizes_that_do_not_hold(self):
        for text, at in (
                (SHORT.format("f"), ("f", 2)),
                (MANY.format("a") + SHORT.format("f") + SHORT.format("g"), ("f", 2)),
                ("(fn f ((xs list)) (list 0 0) (give xs))" + SHORT.format("g"), ("f", 0)),
                (SHORT.format("g") + "(fn f ((xs list)) (list 0 0) (give xs))", ("g", 2)),
                ("(fn f ((n num)) (tree 0 0) (less n 1 (give leaf) (give (node leaf n leaf))))", ("f", 1))):
            for power in (0, 1, 2, 3):
                for error in self.refused(NoSize, read(text), PLAIN, power):
                    self.assertEqual(error.at, at)
                    self.assertIsInstance(error.at, tuple)

    def test_more_than_twenty_four_unknowns(self):
        five = read(" ".join(MANY.format(name) for name in "abcde"))
        self.refused(TooMany, five, PLAIN, 1)
        self.refused(TooMany, read(MANY.format("a")), PLAIN, 3)
        self.refused(TooMany, read(" ".join(MANY.format(name) for name in "ab")), PLAIN, 2)
        self.refused(TooMany, read(" ".join(MANY.format(name) for name in "abcdefgh")), PLAIN, 3)
        self.assertEqual(find(five, PLAIN, 0, 10)[0], "bound")
        self.assertEqual(find(read(MANY.format("a")), PLAIN, 2, 10)[2], (1, 1))

    def test_sizes_go_ahead_of_too_many(self):
        program = read(" ".join(MANY.format(name) for name in "abcdefg") + SHORT.format("z"))
        for error in self.refused(NoSize, program, PLAIN, 3):
            self.assertEqual(error.at, ("z", 2))


class TwentyFour(Found):
    def in_good_time(self, program, power):
        for kind in ("price", "room"):
            begin = time.monotonic()
            told = find(program, PLAIN, power, 10, kind)
            self.assertLess(time.monotonic() - begin, 60)
            self.assertEqual(len(rows_for(program, PLAIN, power, kind)[0]), 24)
            self.check(program, PLAIN, power, 10, kind)
            yield told

    def test_six_functions_of_one_list(self):
        texts = ["(fn {0} ((xs list)) (num 0 0) (list xs (give 0) (h t) (give (add (call {1} t) (call {0} t)))))".format(
            name, after) for name, after in zip("abcde", "bcdef")]
        last = "(fn f ((xs list)) (num 0 0) (list xs (give 0) (h t) (give (call f t))))"
        program = read(" ".join(texts + [last]))
        self.assertEqual([told[0] for told in self.in_good_time(program, 3)], ["none", "bound"])

    def test_four_functions_of_two_lists(self):
        texts = ["(fn {0} ((p list) (q tree)) (num 0 0 0) (list p (give (call {1} nil q)) (h t) (tree q (give (call {1} t q))"
                 " (l v r) (give (add (call {0} t l) (add (call {1} p r) (call {0} t r)))))))".format(name, after)
                 for name, after in zip("abc", "bcd")]
        last = "(fn d ((p list) (q tree)) (num 0 0 0) (list p (give 0) (h t) (give (call d t q))))"
        program = read(" ".join(texts + [last]))
        self.assertEqual(len(list(self.in_good_time(program, 2))), 2)

    def test_three_trees_and_many_calls(self):
        body = "(give (add (call f a b c) (call f b c a)))"
        for place, name in enumerate("cba"):
            left, right = "xyz"[place], "uvw"[place]
            body = body.replace(" " + name + " ", " " + left + " ", 1).replace(" " + name + ")", " " + right + ")", 1)
            body = f"(tree {name} (give (call f leaf leaf leaf)) ({left} n{left} {right}) {body})"
        program = read("(fn f ((a tree) (b tree) (c tree)) (num 0 0 0 0) " + body + ")"
                       " (fn g ((a tree)) (num 0 0) (give (call f a a a)))")
        self.assertEqual(len(list(self.in_good_time(program, 3))), 2)


if __name__ == "__main__":
    unittest.main()
