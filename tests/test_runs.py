import copy
import random
import unittest

from tests.samples import EVEN, FLAT, JOIN, LENGTH, PUT, ZERO, any_program, any_value, function, giving, one
from toll.errors import NoFunction, NoValue
from toll.runs import trace
from toll.texts import read
from toll.values import fits, size_of

GREAT = 10 ** 60 - 1
TREE = ((None, 1, None), 2, None)
ARGS = [7, (4, 5), TREE]


def steps(text):
    """Steps told as `0call 0open`."""
    return [(int(word.rstrip("acdeklmnopstu")), word.lstrip("0123456789")) for word in text.split()]


class Traces(unittest.TestCase):
    maxDiff = None

    def told(self, program, name, args, due, most=None):
        kept = copy.deepcopy((program, args))
        for time in range(2):
            told = trace(program, name, args) if most is None else trace(program, name, args, most)
            self.assertEqual(told, due)
            self.assertEqual((program, args), kept)
            self.assertIsInstance(told, tuple)
            self.assertEqual([part.__class__ for part in told[2:]], [list, list])
            # What was told is the asker's own: done anything to, it is told as before.
            told[2].clear()
            told[3].append("mine")

    def gives(self, expression, shape, value, more):
        """One call of f that gives an expression: the whole of what is told, but for the steps behind the first."""
        call = ("f", (7, (4, 5), TREE), None, True, value)
        self.told(giving(expression, shape), "f", ARGS, (True, value, [call], steps("0call " + more)))


class Expressions(Traces):
    def test_what_makes_no_step(self):
        self.gives(("num", -3), "num", -3, "")
        self.gives(("num", GREAT), "num", GREAT, "")
        self.gives(("var", "n"), "num", 7, "")
        self.gives(("var", "xs"), "list", (4, 5), "")
        self.gives(("var", "t"), "tree", TREE, "")
        self.gives(("nil",), "list", (), "")
        self.gives(("leaf",), "tree", None, "")

    def test_cons(self):
        self.gives(("cons", ("var", "n"), ("var", "xs")), "list", (7, 4, 5), "0make")
        self.gives(("cons", ("num", 1), ("cons", ("num", 2), ("nil",))), "list", (1, 2), "0make 0make")
        self.gives(("cons", ("add", ("num", 1), ("num", 2)), ("cons", ("num", 2), ("nil",))), "list", (3, 2),
                   "0sum 0make 0make")

    def test_node(self):
        self.gives(("node", ("var", "t"), ("var", "n"), ("leaf",)), "tree", (TREE, 7, None), "0make")
        inner = ("node", ("leaf",), ("sub", ("num", 1), ("num", 4)), ("leaf",))
        self.gives(("node", inner, ("add", ("var", "n"), ("var", "n")), ("node", ("leaf",), ("num", 0), ("var", "t"))),
                   "tree", ((None, -3, None), 14, (None, 0, TREE)), "0sum 0make 0sum 0make 0make")

    def test_add_and_sub(self):
        self.gives(("add", ("var", "n"), ("num", -9)), "num", -2, "0sum")
        self.gives(("sub", ("var", "n"), ("num", 9)), "num", -2, "0sum")
        self.gives(("sub", ("num", 9), ("var", "n")), "num", 2, "0sum")
        self.gives(("sub", ("add", ("num", 1), ("num", 2)), ("sub", ("num", 10), ("num", 4))), "num", -3,
                   "0sum 0sum 0sum")
        self.gives(("add", ("num", GREAT), ("num", GREAT)), "num", 2 * GREAT, "0sum")
        self.gives(("sub", ("num", -GREAT), ("num", GREAT)), "num", -2 * GREAT, "0sum")


class Bodies(Traces):
    def body(self, body, value, more, args=ARGS):
        call = ("f", tuple(args), None, True, value)
        self.told(one(body=body), "f", args, (True, value, [call], steps("0call " + more)))

    def test_let(self):
        self.body(("let", "a", ("add", ("var", "n"), ("num", 1)), ("give", ("add", ("var", "a"), ("var", "a")))),
                  16, "0sum 0let 0sum")
        self.body(("let", "a", ("num", 5), ("let", "b", ("var", "a"), ("give", ("var", "b")))), 5, "0let 0let")

    def test_less(self):
        def less(first, second):
            return ("less", ("num", first), ("num", second), ("give", ("num", 1)), ("give", ("num", 2)))

        self.body(less(1, 2), 1, "0less")
        self.body(less(2, 2), 2, "0less")
        self.body(less(3, 2), 2, "0less")
        self.body(less(-3, -2), 1, "0less")
        self.body(less(GREAT - 1, GREAT), 1, "0less")
        self.body(("less", ("sub", ("num", 1), ("num", 1)), ("add", ("num", 1), ("num", 1)),
                   ("give", ("add", ("num", 1), ("num", 0))), ZERO), 1, "0sum 0sum 0less 0sum")

    def test_list(self):
        def body(empty, full):
            return ("list", "xs", ("give", empty), "h", "r", full)

        self.body(body(("num", 1), ("give", ("num", 2))), 1, "0open", [7, (), None])
        self.body(body(("num", 1), ("give", ("num", 2))), 2, "0open", [7, (0,), None])
        self.body(body(("num", 1), ("give", ("sub", ("var", "h"), ("var", "n")))), -3, "0open 0sum")
        inner = ("list", "r", ("give", ("num", 9)), "i", "s", ("give", ("add", ("var", "h"), ("var", "i"))))
        self.body(body(("num", 1), inner), 9, "0open 0open 0sum")
        self.body(body(("num", 1), inner), 9, "0open 0open", [7, (4,), None])
        again = ("list", "xs", ("give", ("num", 0)), "i", "s", ("give", ("var", "i")))
        self.body(body(("num", 1), again), 4, "0open 0open")

    def test_tree(self):
        def body(full):
            return ("tree", "t", ("give", ("num", 1)), "l", "v", "r", full)

        self.body(body(ZERO), 1, "0open", [7, (), None])
        self.body(body(("give", ("var", "v"))), 2, "0open")
        left = ("tree", "l", ("give", ("num", 5)), "a", "b", "c", ("give", ("add", ("var", "v"), ("var", "b"))))
        self.body(body(left), 3, "0open 0open 0sum")
        right = ("tree", "r", ("give", ("num", 5)), "a", "b", "c", ZERO)
        self.body(body(right), 5, "0open 0open")

    def test_what_is_brought_is_given(self):
        program = read("(fn f ((xs list)) (list 1 1) (list xs (give nil) (h r) (give r)))")
        self.told(program, "f", [(1, 2, 3)], (
            True, (2, 3), [("f", ((1, 2, 3),), None, True, (2, 3))], steps("0call 0open")))
        for name, value in (("l", (None, 1, None)), ("r", (None, 3, None))):
            program = read("(fn f ((t tree)) (tree 0 1) (tree t (give leaf) (l v r) (give " + name + ")))")
            tree = ((None, 1, None), 2, (None, 3, None))
            self.told(program, "f", [tree], (True, value, [("f", (tree,), None, True, value)], steps("0call 0open")))

    def test_a_tree_of_noughts_and_a_list_of_one_nought_are_not_empty(self):
        program = read("(fn f ((t tree)) (num 0 0) (tree t (give 1) (l v r) (give v)))")
        self.told(program, "f", [(None, 0, None)], (True, 0, [("f", ((None, 0, None),), None, True, 0)],
                                                    steps("0call 0open")))


class Calls(Traces):
    def test_a_call_to_itself(self):
        self.told(LENGTH, "length", [(8, 9)], (
            True, 2,
            [("length", ((8, 9),), None, True, 2), ("length", ((9,),), 0, True, 1), ("length", ((),), 1, True, 0)],
            steps("0call 0open 1call 1open 2call 2open 1sum 0sum")))

    def test_functions_that_call_one_another(self):
        self.told(EVEN, "even", [2], (
            True, 1, [("even", (2,), None, True, 1), ("odd", (1,), 0, True, 1), ("even", (0,), 1, True, 1)],
            steps("0call 0less 0sum 1call 1less 1sum 2call 2less")))
        self.told(EVEN, "odd", [2], (
            True, -1, [("odd", (2,), None, True, -1), ("even", (1,), 0, True, -1), ("odd", (0,), 1, True, -1)],
            steps("0call 0less 0sum 1call 1less 1sum 2call 2less")))
        self.told(EVEN, "odd", [-4], (True, -1, [("odd", (-4,), None, True, -1)], steps("0call 0less")))

    def test_a_call_within_a_cons(self):
        self.told(JOIN, "join", [(1,), (2, 3)], (
            True, (1, 2, 3),
            [("join", ((1,), (2, 3)), None, True, (1, 2, 3)), ("join", ((), (2, 3)), 0, True, (2, 3))],
            steps("0call 0open 1call 1open 0make")))

    def test_calls_within_a_node(self):
        tree = (None, 5, (None, 8, None))
        new = (None, 5, ((None, 6, None), 8, None))
        self.told(PUT, "put", [6, tree], (
            True, new,
            [("put", (6, tree), None, True, new),
             ("put", (6, (None, 8, None)), 0, True, ((None, 6, None), 8, None)),
             ("put", (6, None), 1, True, (None, 6, None))],
            steps("0call 0open 0less 1call 1open 1less 2call 2open 2make 1make 0make")))

    def test_args_that_are_calls_themselves(self):
        program = read(
            "(fn f ((a num)) (num 0 0) (give (call g (call h a) (add (call h (call h 5)) 1))))"
            " (fn g ((a num) (b num)) (num 0 0 0) (give (sub a b)))"
            " (fn h ((a num)) (num 0 0) (let b (add a a) (give b)))")
        self.told(program, "f", [3], (
            True, -15,
            [("f", (3,), None, True, -15), ("h", (3,), 0, True, 6), ("h", (5,), 0, True, 10), ("h", (10,), 0, True, 20),
             ("g", (6, 21), 0, True, -15)],
            steps("0call 1call 1sum 1let 2call 2sum 2let 3call 3sum 3let 0sum 4call 4sum")))

    def test_a_call_belongs_to_the_body_it_stands_in(self):
        program = read(
            "(fn f ((a num)) (num 0 0) (give (call g (call g a))))"
            " (fn g ((a num)) (num 0 0) (give (call h a)))"
            " (fn h ((a num)) (num 0 0) (give (add a 1)))")
        self.told(program, "f", [0], (
            True, 2,
            [("f", (0,), None, True, 2), ("g", (0,), 0, True, 1), ("h", (0,), 1, True, 1),
             ("g", (1,), 0, True, 2), ("h", (1,), 3, True, 2)],
            steps("0call 1call 2call 2sum 3call 4call 4sum")))

    def test_each_name_is_looked_for_in_its_own_call(self):
        program = read(
            "(fn f ((a num) (b num)) (num 0 0 0) (let c (call g b a) (give (sub c (add a a)))))"
            " (fn g ((a num) (c num)) (num 0 0 0) (let b (sub a c) (give b)))")
        self.told(program, "f", [10, 3], (
            True, -27, [("f", (10, 3), None, True, -27), ("g", (3, 10), 0, True, -7)],
            steps("0call 1call 1sum 1let 0let 0sum 0sum")))

    def test_the_order_of_steps(self):
        calls = "(call g 1) (call g 2)"
        for what, tail in (("(add {})", "0sum"), ("(sub {})", "0sum")):
            program = read("(fn f ((a num)) (num 0 0) (give " + what.format(calls) + "))"
                           " (fn g ((a num)) (num 0 0) (give a))")
            told = trace(program, "f", [0])
            self.assertEqual(told[3], steps("0call 1call 2call " + tail))
            self.assertEqual([call[1] for call in told[2]], [(0,), (1,), (2,)])
        program = read(
            "(fn f ((a num)) (list 5 0) (let x (call g 1) (less (call g 2) (call g 3)"
            " (give (cons (call g 4) (call k (call g 5)))) (give nil))))"
            " (fn g ((a num)) (num 0 0) (give a)) (fn k ((a num)) (list 1 0) (give (cons a nil)))")
        told = trace(program, "f", [0])
        self.assertEqual(told[1], (4, 5))
        self.assertEqual(told[3], steps("0call 1call 0let 2call 3call 0less 4call 5call 6call 6make 0make"))
        self.assertEqual([(call[0], call[1], call[2]) for call in told[2]], [
            ("f", (0,), None), ("g", (1,), 0), ("g", (2,), 0), ("g", (3,), 0), ("g", (4,), 0), ("g", (5,), 0),
            ("k", (5,), 0)])
        program = read(
            "(fn f ((a num)) (tree 5 0) (give (node (call k 1) (call g 2) (call k 3))))"
            " (fn g ((a num)) (num 0 0) (give a)) (fn k ((a num)) (tree 1 0) (give (node leaf a leaf)))")
        told = trace(program, "f", [0])
        self.assertEqual(told[1], ((None, 1, None), 2, (None, 3, None)))
        self.assertEqual(told[3], steps("0call 1call 1make 2call 3call 3make 0make"))

    def test_the_body_that_is_not_taken_makes_no_step(self):
        program = read("(fn f ((a num)) (num 0 0) (less a 0 (give (call f (add a 1))) (give a)))")
        self.told(program, "f", [5], (True, 5, [("f", (5,), None, True, 5)], steps("0call 0less")))

    def test_a_name_may_be_called_like_a_function(self):
        program = read("(fn f ((g num)) (num 0 0) (give (call g g))) (fn g ((f num)) (num 0 0) (give (add f 1)))")
        self.told(program, "f", [5], (True, 6, [("f", (5,), None, True, 6), ("g", (5,), 0, True, 6)],
                                      steps("0call 1call 1sum")))


class Most(Traces):
    def test_a_most_of_0(self):
        for program, name, args in ((LENGTH, "length", [(1, 2)]), (EVEN, "even", [0]), (PUT, "put", [1, None])):
            self.told(program, name, args, (False, None, [], []), 0)

    def test_each_most_up_to_the_steps_and_beyond(self):
        whole = steps("0call 0open 1call 1open 2call 2open 1sum 0sum")

        def calls(zero, one, two):
            told = [("length", ((8, 9),), None), ("length", ((9,),), 0), ("length", ((),), 1)]
            ends = ((2, zero), (1, one), (0, two))
            return [call + ((True, end[0]) if end[1] else (False, None)) for call, end in zip(told, ends)]

        cut = [calls(0, 0, 0)[:1], calls(0, 0, 0)[:1], calls(0, 0, 0)[:2], calls(0, 0, 0)[:2], calls(0, 0, 0),
               calls(0, 0, 1), calls(0, 1, 1)]
        for most, due in enumerate(cut, start=1):
            self.told(LENGTH, "length", [(8, 9)], (False, None, due, whole[:most]), most)
        for most in (8, 9, 1000, 5000, None):
            self.told(LENGTH, "length", [(8, 9)], (True, 2, calls(1, 1, 1), whole), most)

    def test_a_cut_ahead_of_each_kind_of_step(self):
        for kind, body in (
                ("sum", ("give", ("add", ("num", 1), ("num", 2)))), ("sum", ("give", ("sub", ("num", 1), ("num", 2)))),
                ("let", ("let", "a", ("num", 1), ZERO)), ("less", ("less", ("num", 1), ("num", 2), ZERO, ZERO)),
                ("open", ("list", "xs", ZERO, "h", "r", ZERO)), ("open", ("tree", "t", ZERO, "a", "b", "c", ZERO)),
                ("make", ("let", "a", ("cons", ("num", 1), ("nil",)), ZERO)),
                ("make", ("let", "a", ("node", ("leaf",), ("num", 1), ("leaf",)), ZERO))):
            due = (False, None, [("f", (7, (4, 5), TREE), None, False, None)], [(0, "call")])
            self.told(one(body=body), "f", ARGS, due, 1)
            self.assertEqual(trace(one(body=body), "f", ARGS, 2)[3], [(0, "call"), (0, kind)])

    def test_a_call_that_ended_ahead_of_the_cut_keeps_its_value(self):
        program = read("(fn f ((a num)) (num 0 0) (give (add (call g a) (call g 2))))"
                       " (fn g ((a num)) (num 0 0) (let b (add a 5) (give b)))")
        first = ("f", (1,), None, False, None)
        self.told(program, "f", [1], (False, None, [first, ("g", (1,), 0, True, 6)], steps("0call 1call 1sum 1let")), 4)
        self.told(program, "f", [1], (
            False, None, [first, ("g", (1,), 0, True, 6), ("g", (2,), 0, False, None)],
            steps("0call 1call 1sum 1let 2call 2sum")), 6)
        self.told(program, "f", [1], (
            False, None, [first, ("g", (1,), 0, True, 6), ("g", (2,), 0, True, 7)],
            steps("0call 1call 1sum 1let 2call 2sum 2let")), 7)

    def test_a_value_of_none_that_is_the_leaf(self):
        program = read("(fn f ((a num)) (tree 0 0) (give leaf))")
        self.told(program, "f", [1], (True, None, [("f", (1,), None, True, None)], [(0, "call")]))
        program = read("(fn f ((a num)) (tree 9 0) (give (node (call g a) 1 leaf)))"
                       " (fn g ((a num)) (tree 0 0) (give leaf))")
        self.told(program, "f", [1], (
            False, None, [("f", (1,), None, False, None), ("g", (1,), 0, True, None)], steps("0call 1call")), 2)


LOOP = read("(fn f ((a num)) (num 0 0) (less 0 a (let b (call g a) (give (call f (sub a 1)))) (give 0)))"
            " (fn g ((a num)) (num 0 0) (less 0 a (give (call g (sub a 1))) (give 0)))")


class Great(Traces):
    def test_a_thousand_steps_where_no_most_is_told(self):
        many = read(
            "(fn f ((d num) (a num)) (num 0 0 0) (give (add (call g d a) (call g d a))))"
            " (fn g ((d num) (a num)) (num 0 0 0) (less 0 d (give (add (call g (sub d 1) a) (add (call g (sub d 1) a)"
            " (call g (sub d 1) a)))) (give (call h a))))"
            " (fn h ((a num)) (num 0 0) (less 0 a (give (call h (sub a 1))) (give 0)))")
        # h makes 3a + 2 steps, g with 0 two more, with d above 0 seven and three times those with one fewer.
        for d, a, due in ((3, 9, 1858), (3, 12, 2344), (4, 7, 4612)):
            whole = trace(many, "f", [d, a], 5000)
            self.assertEqual((whole[0], whole[1], len(whole[3])), (True, 0, due))
            for cut in (trace(many, "f", [d, a]), trace(many, "f", [d, a], 1000)):
                self.assertEqual((cut[:2], cut[3]), ((False, None), whole[3][:1000]))
            self.assertEqual(trace(many, "f", [d, a], due), whole)
            short = trace(many, "f", [d, a], due - 1)
            self.assertEqual((short[:2], short[3]), ((False, None), whole[3][:-1]))
        cut = trace(many, "f", [4, 13], 5000)
        self.assertEqual((cut[:2], len(cut[3])), ((False, None), 5000))

    def test_twenty_calls_in_progress_are_not_cut(self):
        calls = [("length", (tuple(range(number, 19)),), number - 1 if number else None, True, 19 - number)
                 for number in range(20)]
        made = []
        for number in range(20):
            made += [(number, "call"), (number, "open")]
        made += [(number, "sum") for number in reversed(range(19))]
        self.told(LENGTH, "length", [tuple(range(19))], (True, 19, calls, made))

    def test_the_twenty_first_call_in_progress_is_cut(self):
        calls = [("length", (tuple(range(number, 20)),), number - 1 if number else None, False, None)
                 for number in range(20)]
        made = []
        for number in range(20):
            made += [(number, "call"), (number, "open")]
        self.told(LENGTH, "length", [tuple(range(20))], (False, None, calls, made))

    def test_calls_that_ended_are_not_in_progress(self):
        told = trace(LOOP, "f", [18], 5000)
        self.assertTrue(told[0])
        self.assertGreater(len(told[2]), 100)

    def test_the_args_of_the_call_that_is_cut_are_made(self):
        program = read("(fn f ((a num)) (num 0 0) (give (call f (add a 1))))")
        told = trace(program, "f", [1])
        self.assertEqual(len(told[2]), 20)
        self.assertEqual(told[3][-1], (19, "sum"))
        self.assertEqual(told[3], [(number, kind) for number in range(20) for kind in ("call", "sum")])

    def test_a_list_of_a_hundred_is_made_and_of_a_hundred_and_one_not(self):
        program = read("(fn f ((xs list) (n num)) (list 9 1 0)"
                       " (less n 1 (give xs) (give (call f (cons n xs) (sub n 1)))))")
        xs = tuple(range(90))
        told = trace(program, "f", [xs, 10])
        self.assertEqual((told[0], len(told[1])), (True, 100))
        told = trace(program, "f", [xs, 11])
        self.assertEqual(told[:2], (False, None))
        self.assertEqual([len(call[1][0]) for call in told[2]], list(range(90, 101)))
        self.assertEqual(told[3], [(number, kind) for number in range(10) for kind in ("call", "less", "make", "sum")]
                         + [(10, "call"), (10, "less")])
        single = read("(fn f ((xs list)) (list 1 1) (give (cons 5 xs)))")
        self.told(single, "f", [(1,) * 100], (False, None, [("f", ((1,) * 100,), None, False, None)], [(0, "call")]))
        self.told(single, "f", [(1,) * 99], (
            True, (5,) + (1,) * 99, [("f", ((1,) * 99,), None, True, (5,) + (1,) * 99)], steps("0call 0make")))

    def test_a_tree_of_a_hundred_is_made_and_of_a_hundred_and_one_not(self):
        def leaning(many, side):
            tree = None
            for number in range(many):
                tree = (tree, number, None) if side == "left" else (None, number, tree)
            return tree

        program = read("(fn f ((a tree) (b tree)) (tree 1 1 1) (give (node a 5 b)))")
        for left, right in ((60, 39), (99, 0), (0, 99), (50, 49)):
            args = (leaning(left, "left"), leaning(right, "right"))
            value = (args[0], 5, args[1])
            self.told(program, "f", list(args), (True, value, [("f", args, None, True, value)], steps("0call 0make")))
        for left, right in ((60, 40), (100, 0), (0, 100)):
            args = (leaning(left, "right"), leaning(right, "left"))
            self.told(program, "f", list(args), (False, None, [("f", args, None, False, None)], [(0, "call")]))

    def test_only_a_make_is_cut_for_its_size(self):
        program = read("(fn f ((xs list)) (list 0 1) (let a xs (give (call g a))))"
                       " (fn g ((xs list)) (list 0 1) (give xs))")
        xs = (1,) * 150
        self.told(program, "f", [xs], (True, xs, [("f", (xs,), None, True, xs), ("g", (xs,), 0, True, xs)],
                                       steps("0call 0let 1call")))

    def test_deep_bodies_and_expressions_in_twenty_calls(self):
        expression = ("var", "n")
        for time in range(5):
            expression = ("add", expression, ("num", 0))
        body = ("give", ("call", "f", (("sub", expression, ("num", 1)), ("var", "xs"), ("var", "t"))))
        for place in range(8):
            body = ("let", "abcdefgh"[place], ("num", 1), body)
        body = ("less", ("num", 0), ("var", "n"), body, ZERO)
        told = trace(one(body=body), "f", [19, (), None])
        self.assertEqual((told[0], told[1], len(told[2])), (True, 0, 20))
        self.assertEqual(len(told[3]), 19 * (2 + 8 + 6) + 2)
        self.assertFalse(trace(one(body=body), "f", [20, (), None])[0])

    def test_calls_nested_in_args(self):
        expression = ("var", "n")
        for time in range(6):
            expression = ("call", "g", (expression,))
        called = function("g", (("a", "num"),), body=("give", ("add", ("var", "a"), ("num", 2))))
        program = one(body=("give", expression)) + (called,)
        told = trace(program, "f", [1, (), None])
        self.assertEqual(told[1], 13)
        self.assertEqual([call[2] for call in told[2]], [None] + [0] * 6)


class Refused(Traces):
    def refused(self, error, program, name, args):
        kept = repr(args)
        with self.assertRaises(error) as caught:
            trace(program, name, args)
        self.assertIs(caught.exception.__class__, error)
        self.assertEqual(repr(args), kept)

    def test_a_name_that_no_function_has(self):
        for name in ("", "lengt", "lengths", "LENGTH", "f", "xs", "nil", "no such name at all"):
            for args in ([()], [(1, 2)], [], [1], [None, None], ["x"]):
                self.refused(NoFunction, LENGTH, name, args)
        self.refused(NoFunction, FLAT, "put", [None])

    def test_args_too_few_and_too_many(self):
        for args in ([], [()], [(), (), ()], [(), (), (), (), ()]):
            self.refused(NoValue, JOIN, "join", args)
        for args in ([], [None, None], [1, None]):
            self.refused(NoValue, FLAT, "flat", args)

    def test_args_of_another_shape_and_anything_else(self):
        params = (("n", "num"), ("xs", "list"), ("t", "tree"))
        things = (0, 5, (), (1, 2, 3), None, (None, 1, None), True, False, "", "1", "()", [], [1], {}, {1: 2}, 1.5,
                  (1,), (None,), (1, True), (1, None), (1, "2"), (None, True, None), (None, 1, ()), (None, 1), b"",
                  (None, 1, None, None), ((None, "1", None), 1, None), (None, 1, (None, 2, 0)), ([], 1, None), object())
        ordinary = [7, (4, 5), TREE]
        for place, param in enumerate(params):
            for thing in things:
                args = ordinary[:place] + [thing] + ordinary[place + 1:]
                if fits(param[1], thing):
                    self.assertTrue(trace(one(), "f", args)[0])
                else:
                    self.refused(NoValue, one(), "f", args)

    def test_deep_within_a_tree(self):
        for wrong in ((), True, "1", (None, None, None), (None, 1)):
            tree = wrong
            for number in range(39):
                tree = (tree, number, None)
            self.refused(NoValue, FLAT, "flat", [tree])

    def test_behind_a_refusal_all_is_as_before(self):
        before = trace(JOIN, "join", [(1,), (2,)])
        self.refused(NoFunction, JOIN, "flat", [(1,), (2,)])
        self.refused(NoValue, JOIN, "join", [(1,), None])
        self.assertEqual(trace(JOIN, "join", [(1,), (2,)]), before)

    def test_refused_also_where_nothing_could_be_run(self):
        with self.assertRaises(NoFunction):
            trace(LENGTH, "f", [3], 0)
        with self.assertRaises(NoValue):
            trace(LENGTH, "length", [3], 0)


class OwnThings(Traces):
    def test_what_was_told_may_be_changed(self):
        first = trace(LENGTH, "length", [(8, 9)])
        kept = copy.deepcopy(first)
        second = trace(LENGTH, "length", [(8, 9)])
        first[2].append("mine")
        first[3][0] = "mine"
        self.assertEqual(second, kept)
        self.assertEqual(trace(LENGTH, "length", [(8, 9)]), kept)

    def test_args_may_be_changed_behind_it(self):
        args = [(1,), (2,)]
        told = trace(JOIN, "join", args)
        args[0] = None
        args.append(3)
        self.assertEqual(told[2][0], ("join", ((1,), (2,)), None, True, (1, 2)))

    def test_sixty_figures_and_a_size_of_forty(self):
        numbers = (GREAT,) * 12 + (-GREAT,) * 28
        told = trace(read("(fn f ((xs list) (n num)) (list 1 1 0) (give (cons (add n n) xs)))"), "f", [numbers, -GREAT])
        self.assertEqual(told[1], (-2 * GREAT,) + numbers)


class Cut(Exception):
    pass


class PlainRun:
    """A second make of a run, that calls itself: for programs that are not deep."""

    def __init__(self, program, most):
        self.functions = {each[0]: each for each in program}
        self.most, self.calls, self.steps, self.deep = most, [], [], 0

    def step(self, number, kind, cut=False):
        if cut or len(self.steps) == self.most:
            raise Cut
        self.steps.append((number, kind))

    def call(self, name, args, up):
        number = len(self.calls)
        self.step(number, "call", self.deep == 20)
        self.calls.append((name, tuple(args), up, False, None))
        self.deep += 1
        names = dict(zip([param for param, shape in self.functions[name][1]], args))
        value = self.body(self.functions[name][3], names, number)
        self.deep -= 1
        self.calls[number] = (name, tuple(args), up, True, value)
        return value

    def body(self, body, names, number):
        if body[0] == "give":
            return self.value(body[1], names, number)
        if body[0] == "let":
            value = self.value(body[2], names, number)
            self.step(number, "let")
            return self.body(body[3], {**names, body[1]: value}, number)
        if body[0] == "less":
            first = self.value(body[1], names, number)
            second = self.value(body[2], names, number)
            self.step(number, "less")
            return self.body(body[3] if first < second else body[4], names, number)
        self.step(number, "open")
        if body[0] == "list":
            x, empty, h, t, full = body[1:]
            if len(names[x]) == 0:
                return self.body(empty, names, number)
            return self.body(full, {**names, h: names[x][0], t: names[x][1:]}, number)
        x, empty, left, v, r, full = body[1:]
        if names[x] is None:
            return self.body(empty, names, number)
        return self.body(full, {**names, left: names[x][0], v: names[x][1], r: names[x][2]}, number)

    def value(self, e, names, number):
        if e[0] == "num":
            return e[1]
        if e[0] == "var":
            return names[e[1]]
        if e[0] in ("nil", "leaf"):
            return () if e[0] == "nil" else None
        parts = [self.value(part, names, number) for part in (e[2] if e[0] == "call" else e[1:])]
        if e[0] == "call":
            return self.call(e[1], parts, number)
        if e[0] == "cons":
            self.step(number, "make", len(parts[1]) >= 100)
            return (parts[0],) + parts[1]
        if e[0] == "node":
            self.step(number, "make", size_of("tree", tuple(parts)) > 100)
            return tuple(parts)
        self.step(number, "sum")
        return parts[0] + parts[1] if e[0] == "add" else parts[0] - parts[1]


def plain_trace(program, name, args, most):
    run = PlainRun(program, most)
    try:
        value = run.call(name, args, None)
    except Cut:
        return (False, None, run.calls, run.steps)
    return (True, value, run.calls, run.steps)


class AgainstASecondMake(unittest.TestCase):
    def test_many_programs(self):
        chance = random.Random(5)
        ends = {True: 0, False: 0}
        for time in range(400):
            program = any_program(chance)
            for name, params, gives, body in program[:3]:
                args = [any_value(chance, shape) for param, shape in params]
                most = chance.choice((3, 10, 40, 200, 1000))
                told = trace(program, name, args, most)
                self.assertEqual(told, plain_trace(program, name, args, most), (program, name, args, most))
                ends[told[0]] += 1
                if told[0]:
                    self.assertTrue(fits(gives[0], told[1]))
        self.assertGreater(min(ends.values()), 50)


if __name__ == "__main__":
    unittest.main()
