import copy
import random
import unittest
from fractions import Fraction

from tests.samples import EVEN, FLAT, JOIN, LENGTH, PUT, any_value, measured_program
from tests.tellers import BAD_TABLES, WORDS, fraction, sum_of, table_of, value_by_hand
from toll.errors import NoPaper, NoSize, NoTable, TooMany
from toll.finds import find
from toll.papers import bound_of, fault_of
from toll.runs import trace
from toll.tables import plain_table, price_of
from toll.texts import read
from toll.values import size_of
from toll.ways import room_of, whole_prices

PLAIN = plain_table()


def flat_sum(*numbers):
    """A sum over one size: the numbers for the powers 0, 1 and so on."""
    return sum_of(*[((power,), number) for power, number in enumerate(numbers) if number])


def pair_sum(first, second, third=0):
    return sum_of(*[part for part in (((0, 0), first), ((0, 1), third), ((1, 0), second)) if part[1]])


LENGTH_PAPER = {"length": (flat_sum(2, 3), flat_sum(2, 2))}
JOIN_SUMS = (pair_sum(2, 3), pair_sum(3, 3))
FLAT_PAPER = {"flat": (flat_sum(2, 8, 3), flat_sum(2, 3)), "join": JOIN_SUMS}
PUT_PAPER = {"put": (pair_sum(3, 0, 4), pair_sum(3, 0, 3))}


class Faults(unittest.TestCase):
    def fault(self, due, program, paper, table=PLAIN):
        kept = copy.deepcopy((program, table, paper))
        self.assertEqual(fault_of(program, table, paper), due)
        self.assertEqual(fault_of(program, table, paper), due, "asked again")
        self.assertEqual((program, table, paper), kept)

    def test_papers_that_hold(self):
        self.fault(None, LENGTH, LENGTH_PAPER)
        self.fault(None, JOIN, {"join": JOIN_SUMS})
        self.fault(None, FLAT, FLAT_PAPER)
        self.fault(None, PUT, PUT_PAPER)

    def test_more_than_needed_holds(self):
        self.fault(None, LENGTH, {"length": (flat_sum(2, 3, 1), flat_sum(5, Fraction(9, 4), 0, 7))})
        self.fault(None, LENGTH, {"length": (flat_sum(Fraction(5, 2), Fraction(7, 2)), flat_sum(9, 9))})
        self.fault(None, LENGTH, {"length": (flat_sum(2, 3, Fraction(1, 2)), flat_sum(2, 2, Fraction(1, 10 ** 60)))})

    def test_the_price(self):
        self.fault(("price", "length", 0), LENGTH, {"length": (flat_sum(1, 3), flat_sum(2, 2))})
        self.fault(("price", "length", 0), LENGTH, {"length": ((), ())})
        self.fault(("price", "length", 1), LENGTH, {"length": (flat_sum(2, Fraction(29, 10)), flat_sum(2, 2))})
        self.fault(("price", "length", 1), LENGTH, {"length": (flat_sum(2, 0, 3), flat_sum(2, 2))})
        self.fault(("price", "flat", 1), FLAT, {**FLAT_PAPER, "flat": (flat_sum(2, 8, 2), flat_sum(2, 3))})
        self.fault(("price", "flat", 1), FLAT, {**FLAT_PAPER, "flat": (flat_sum(2, 7, 3), flat_sum(2, 3))})
        self.fault(("price", "join", 1), FLAT, {**FLAT_PAPER, "join": (pair_sum(2, Fraction(29, 10)), JOIN_SUMS[1])})

    def test_the_room(self):
        self.fault(("room", "length", 0), LENGTH, {"length": (flat_sum(2, 3), flat_sum(1, 2))})
        self.fault(("room", "length", 1), LENGTH, {"length": (flat_sum(2, 3), flat_sum(2, 1))})
        self.fault(("room", "length", 0), LENGTH, {"length": (flat_sum(2, 3), ())})
        self.fault(("room", "flat", 1), FLAT, {**FLAT_PAPER, "flat": (flat_sum(2, 8, 3), flat_sum(2, Fraction(14, 5)))})
        self.fault(("room", "join", 0), FLAT, {**FLAT_PAPER, "join": (JOIN_SUMS[0], pair_sum(2, 3))})
        self.fault(("room", "join", 1), FLAT, {**FLAT_PAPER, "join": (JOIN_SUMS[0], pair_sum(3, 2))})

    def test_each_call_counts_alone_for_the_room(self):
        program = read("(fn f ((n num)) (num 0 0) (give (add (call g n) (add (call h n n) (call g n)))))"
                       " (fn g ((n num)) (num 0 0) (give n)) (fn h ((n num) (m num)) (num 0 0 0) (give n))")
        rooms = {"f": 5, "g": 2, "h": 3}
        prices = {"f": 6, "g": 1, "h": 1}

        def paper(**more):
            told = {**rooms, **more}
            return {name: (sum_of(((0,) * many, prices[name])), sum_of(((0,) * many, told[name])))
                    for name, many in (("f", 1), ("g", 1), ("h", 2))}

        self.fault(None, program, paper())
        self.fault(("room", "f", 0), program, paper(f=Fraction(49, 10)))
        self.fault(("room", "f", 0), program, paper(g=4))
        self.fault(None, program, paper(g=3))
        self.fault(("room", "g", 0), program, paper(g=1))
        self.fault(("room", "h", 0), program, paper(h=2))

    def test_the_size(self):
        short = read("(fn f ((xs list)) (list 0 1) (list xs (give nil) (h t) (give (cons h (cons h t)))))")
        enough = (flat_sum(9, 9), flat_sum(9, 9))
        self.fault(("size", "f", 1), short, {"f": enough})
        self.fault(None, read("(fn f ((xs list)) (list 1 1) (list xs (give nil) (h t) (give (cons h (cons h t)))))"),
                   {"f": enough})
        self.fault(None, read("(fn f ((xs list)) (list 0 2) (list xs (give nil) (h t) (give (cons h (cons h t)))))"),
                   {"f": enough})
        self.fault(("size", "f", 0), read("(fn f ((xs list)) (list 5 0) (give xs))"), {"f": enough})
        self.fault(("size", "f", 0), read("(fn f ((n num)) (tree 0 0) (give (node leaf n leaf)))"),
                   {"f": (flat_sum(9), flat_sum(9))})
        self.fault(("size", "g", 2), read(
            "(fn f ((t tree)) (tree 0 1) (give t))"
            " (fn g ((n num) (t tree)) (tree 0 0 1) (tree t (give t) (a b c) (less b n (give a) (give (node t 1 c)))))"),
            {"f": enough, "g": (pair_sum(9, 0, 9), pair_sum(9, 0, 9))})

    def test_a_size_by_the_called_ones_word(self):
        program = ("(fn f ((xs list)) (list 0 1) (give (call g xs)))"
                   " (fn g ((xs list)) (list 0 {}) (list xs (give xs) (h t) (give t)))")
        paper = {"f": (flat_sum(19, 9), flat_sum(19, 9)), "g": (flat_sum(9, 9), flat_sum(9, 9))}
        self.fault(None, read(program.format(1)), paper)
        self.fault(("size", "f", 0), read(program.format(2)), paper)

    def test_which_goes_first(self):
        program = "(fn f ((xs list)) (list 0 1) (list xs (give {}) (h t) (give {})))"
        good, bad = "t", "(cons 1 (cons h t))"
        low, enough = flat_sum(1), flat_sum(9, 9)
        for empty, full, price, room, due in (
                ("xs", good, enough, enough, None), ("xs", bad, enough, enough, ("size", "f", 1)),
                ("xs", bad, low, enough, ("price", "f", 0)), ("xs", bad, enough, low, ("room", "f", 0)),
                ("(cons 1 xs)", bad, low, low, ("size", "f", 0)), ("xs", good, low, low, ("price", "f", 0)),
                ("xs", good, enough, low, ("room", "f", 0)), ("xs", bad, flat_sum(2), flat_sum(2), ("size", "f", 1))):
            text = program.format(empty, full)
            self.fault(due, read(text), {"f": (price, room)})
        two = read("(fn f ((n num)) (num 0 0) (give n)) (fn g ((n num)) (list 0 0) (give (cons n nil)))")
        self.fault(("size", "g", 0), two, {"f": (enough[:1], enough[:1]), "g": ((), ())})
        self.fault(("room", "f", 0), two, {"f": (enough[:1], ()), "g": ((), ())})
        self.fault(("size", "g", 0), tuple(reversed(two)), {"f": (enough[:1], ()), "g": ((), ())})

    def test_other_tables(self):
        nothing = {word: 0 for word in WORDS}
        self.fault(None, LENGTH, {"length": ((), ())}, nothing)
        self.fault(None, EVEN, {"even": ((), ()), "odd": ((), ())}, nothing)
        self.fault(("room", "even", 0), EVEN, {"even": ((), ()), "odd": ((), ())}, {**nothing, "hold": 1})
        self.fault(("price", "even", 0), EVEN, {"even": ((), ()), "odd": ((), ())}, {**nothing, "less": 1})
        for kind in ("call", "open"):
            self.fault(("price", "length", 0), LENGTH, LENGTH_PAPER, table_of(**{kind: 2}))
        self.fault(("price", "length", 1), LENGTH, LENGTH_PAPER, table_of(sum=2))
        for kind in ("make", "let", "less"):
            self.fault(None, LENGTH, LENGTH_PAPER, table_of(**{kind: 10 ** 29}))
        self.fault(("room", "length", 0), LENGTH, LENGTH_PAPER, table_of(hold=2))
        self.fault(None, LENGTH, {"length": (flat_sum(2, 3), flat_sum(20, 20))}, table_of(hold=10))


class Refused(unittest.TestCase):
    def refused(self, error, program, table, paper):
        kept = copy.deepcopy(paper)
        with self.assertRaises(error):
            fault_of(program, table, paper)
        self.assertEqual(paper, kept)

    def test_wrong_tables_go_first(self):
        for table in BAD_TABLES:
            self.refused(NoTable, LENGTH, table, LENGTH_PAPER)
            self.refused(NoTable, LENGTH, table, {})

    def test_names_too_few_and_too_many(self):
        self.refused(NoPaper, LENGTH, PLAIN, {})
        self.refused(NoPaper, LENGTH, PLAIN, {**LENGTH_PAPER, "f": LENGTH_PAPER["length"]})
        self.refused(NoPaper, LENGTH, PLAIN, {"f": LENGTH_PAPER["length"]})
        self.refused(NoPaper, LENGTH, PLAIN, {"Length": LENGTH_PAPER["length"]})
        self.refused(NoPaper, FLAT, PLAIN, {"flat": FLAT_PAPER["flat"]})
        self.refused(NoPaper, FLAT, PLAIN, {**FLAT_PAPER, "": ((), ())})

    def test_a_ratio_below_0(self):
        for place in (0, 1):
            for wrong in (flat_sum(-1), flat_sum(2, -3), flat_sum(9, 9, Fraction(-1, 10 ** 9))):
                pair = list(LENGTH_PAPER["length"])
                pair[place] = wrong
                self.refused(NoPaper, LENGTH, PLAIN, {"length": tuple(pair)})
                self.refused(NoPaper, FLAT, PLAIN, {**FLAT_PAPER, "flat": tuple(pair)})

    def test_a_power_at_a_num(self):
        for wrong in (sum_of(((1, 0), 1)), sum_of(((0, 0), 9), ((0, 1), 9), ((1, 1), 9)), sum_of(((3, 0), 1))):
            self.refused(NoPaper, PUT, PLAIN, {"put": (wrong, PUT_PAPER["put"][1])})
            self.refused(NoPaper, PUT, PLAIN, {"put": (PUT_PAPER["put"][0], wrong)})
        self.refused(NoPaper, EVEN, PLAIN, {"even": (flat_sum(1), ()), "odd": (flat_sum(1, 1), ())})

    def test_powers_too_few_and_too_many(self):
        for wrong in (sum_of(((), 5)), sum_of(((0, 0), 5)), sum_of(((0, 1), 5)), sum_of(((0, 0, 0), 5))):
            self.refused(NoPaper, LENGTH, PLAIN, {"length": (wrong, flat_sum(2, 2))})
            self.refused(NoPaper, LENGTH, PLAIN, {"length": (flat_sum(2, 3), wrong)})
        self.refused(NoPaper, FLAT, PLAIN, {**FLAT_PAPER, "join": (flat_sum(5), flat_sum(5))})

    def test_a_program_whose_sizes_do_not_hold_is_no_reason(self):
        program = read("(fn f ((xs list)) (list 0 0) (give xs))")
        self.refused(NoPaper, program, PLAIN, {})
        self.assertEqual(fault_of(program, PLAIN, {"f": ((), ())}), ("size", "f", 0))

    def test_sums_without_parts_are_no_reason(self):
        self.assertEqual(fault_of(FLAT, PLAIN, {"flat": ((), ()), "join": ((), ())}), ("price", "flat", 0))


class Bounds(unittest.TestCase):
    def test_by_hand(self):
        self.assertEqual(bound_of(LENGTH, LENGTH_PAPER, "length", [(5, 6, 7)]), ((11, 1), (8, 1)))
        self.assertEqual(bound_of(LENGTH, LENGTH_PAPER, "length", [()]), ((2, 1), (2, 1)))
        self.assertEqual(bound_of(FLAT, FLAT_PAPER, "flat", [((None, 1, None), 2, None)]), ((21, 1), (8, 1)))
        self.assertEqual(bound_of(FLAT, FLAT_PAPER, "join", [(1, 2), (3,)]), ((8, 1), (9, 1)))
        self.assertEqual(bound_of(PUT, PUT_PAPER, "put", [9, (None, 5, None)]), ((7, 1), (6, 1)))
        half = {"length": (flat_sum(2, Fraction(7, 2)), flat_sum(2, 2, Fraction(1, 3)))}
        self.assertEqual(bound_of(LENGTH, half, "length", [(1, 2, 3)]), ((25, 2), (9, 1)))
        self.assertEqual(bound_of(LENGTH, {"length": ((), ())}, "length", [(1, 2, 3)]), ((0, 1), (0, 1)))

    def test_a_num_counts_for_nothing(self):
        for number in (-5, 0, 7, 10 ** 59):
            self.assertEqual(bound_of(PUT, PUT_PAPER, "put", [number, None]), ((3, 1), (3, 1)))

    def test_what_is_handed_in_stays(self):
        args = [(5, 6)]
        paper = copy.deepcopy(LENGTH_PAPER)
        bound_of(LENGTH, paper, "length", args)
        self.assertEqual((args, paper), ([(5, 6)], LENGTH_PAPER))


class NoRunCostsMore(unittest.TestCase):
    def within(self, program, table, paper, name, args, most):
        done, value, calls, steps = trace(program, name, args, most)
        bound = bound_of(program, paper, name, args)
        self.assertLessEqual(price_of(steps, table), fraction(bound[0]))
        self.assertLessEqual(room_of(calls, table), fraction(bound[1]))
        heads = {each[0]: each for each in program}
        for call, whole in zip(calls, whole_prices(calls, steps, table)):
            sizes = [size_of(shape, arg) for (param, shape), arg in zip(heads[call[0]][1], call[1])]
            self.assertLessEqual(whole, value_by_hand(paper[call[0]][0], sizes))
            line = heads[call[0]][2][1]
            if call[3]:
                told = line[0] + sum(number * size for number, size in zip(line[1:], sizes))
                self.assertLessEqual(size_of(heads[call[0]][2][0], call[4]), told)

    def test_samples(self):
        chance = random.Random(31)
        for program, paper in ((LENGTH, LENGTH_PAPER), (FLAT, FLAT_PAPER), (PUT, PUT_PAPER)):
            for time in range(60):
                for name, params, gives, body in program:
                    args = [any_value(chance, shape, 20) for param, shape in params]
                    self.within(program, PLAIN, paper, name, args, chance.choice((0, 7, 60, 1000)))

    def test_many_programs(self):
        chance = random.Random(32)
        held = 0
        for time in range(250):
            program = measured_program(chance)
            table = {word: chance.randint(0, 9) for word in WORDS}
            try:
                found = [find(program, table, 2, chance.randint(0, 20), kind) for kind in ("price", "room")]
            except (NoSize, TooMany):
                continue
            if found[0][0] == found[1][0] == "bound":
                paper = {name: (found[0][1][name], found[1][1][name]) for name in found[0][1]}
                self.assertIsNone(fault_of(program, table, paper))
                held += 1
                for name, params, gives, body in program:
                    for most in (5, 50, 1000):
                        args = [any_value(chance, shape, 8) for param, shape in params]
                        self.within(program, table, paper, name, args, most)
        self.assertGreater(held, 50)


if __name__ == "__main__":
    unittest.main()
