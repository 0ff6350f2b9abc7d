import copy
import random
import unittest

from tests.samples import EVEN, FLAT, JOIN, LENGTH, PUT, any_program, measured_program
from tests.tellers import KINDS
from toll.paths import paths_of
from toll.texts import read


def counts(**some):
    return {**{kind: 0 for kind in KINDS}, "call": 1, **some}


class Told(unittest.TestCase):
    maxDiff = None

    def told(self, program, name, *due):
        if isinstance(program, str):
            program = read(program)
        kept = copy.deepcopy(program)
        for time in range(2):
            told = paths_of(program, name)
            self.assertEqual(told, list(due))
            self.assertIsInstance(told, list)
            for shape, many, steps, calls, size in told:
                self.assertEqual([part.__class__ for part in (shape, steps, calls, size)], [tuple, dict, list, tuple])
                steps.clear()
                calls.append("mine")
            self.assertEqual(program, kept)
            told.clear()


class Giving(Told):
    def test_a_body_that_only_gives(self):
        head = "(fn f ((n num) (xs list) (t tree)) "
        shape = ((0, 0, 0, 0), (0, 0, 1, 0), (0, 0, 0, 1))
        for gives, e, due in (
                ("(num 0 0 0 0)", "5", (0, 0, 0, 0)), ("(num 0 0 0 0)", "n", (0, 0, 0, 0)),
                ("(list 9 0 9 9)", "nil", (0, 0, 0, 0)), ("(tree 9 0 9 9)", "leaf", (0, 0, 0, 0)),
                ("(list 9 0 9 9)", "xs", (0, 0, 1, 0)), ("(tree 9 0 9 9)", "t", (0, 0, 0, 1))):
            self.told(head + gives + " (give " + e + "))", "f", (shape, 3, counts(), [], due))

    def test_expressions(self):
        head = "(fn f ((n num) (xs list) (t tree)) "
        shape = ((0, 0, 0, 0), (0, 0, 1, 0), (0, 0, 0, 1))
        self.told(head + "(num 0 0 0 0) (give (add n (sub n 1))))", "f", (shape, 3, counts(sum=2), [], (0, 0, 0, 0)))
        self.told(head + "(list 0 0 0 0) (give (cons (add n n) (cons 1 xs))))", "f",
                  (shape, 3, counts(sum=1, make=2), [], (2, 0, 1, 0)))
        self.told(head + "(tree 0 0 0 0) (give (node t n (node leaf 1 t))))", "f",
                  (shape, 3, counts(make=2), [], (2, 0, 0, 2)))

    def test_let(self):
        self.told("(fn f ((xs list) (ys list)) (list 0 0 0) (let a (cons 1 xs) (let b (cons 2 a) (give (cons 3 b)))))", "f",
                  (((0, 1, 0), (0, 0, 1)), 2, counts(make=3, let=2), [], (3, 1, 0)))
        self.told("(fn f ((t tree)) (num 0 0) (let a (node t 1 t) (let b (add 1 2) (give b))))", "f",
                  (((0, 1),), 1, counts(make=1, let=2, sum=1), [], (0, 0)))

    def test_calls(self):
        program = (
            "(fn f ((xs list) (t tree)) (list 0 0 0)"
            " (let a (call g 5 (cons 1 xs) t) (give (call h (call h a) (call g 1 a (node t 2 t))))))"
            " (fn g ((n num) (xs list) (t tree)) (list 4 0 2 3) (give xs))"
            " (fn h ((xs list) (ys list)) (list 1 2 1) (give ys))").replace("(call h a)", "(call h a xs)")
        # g of 1 + x and t: 4 + 2(1 + x) + 3t; h of that and x: 1 + 2(6 + 2x + 3t) + x; and so on.
        a = (6, 2, 3)
        inner = (13, 5, 6)
        second = (4 + 12 + 3, 4, 6 + 6)
        self.told(program, "f", (
            ((0, 1, 0), (0, 0, 1)), 2, counts(make=2, let=1),
            [("g", ((0, 0, 0), (1, 1, 0), (0, 0, 1))), ("h", (a, (0, 1, 0))), ("g", ((0, 0, 0), a, (1, 0, 2))),
             ("h", (inner, second))],
            (1 + 26 + 19, 10 + 4, 12 + 12)))

    def test_a_call_to_what_gives_a_num(self):
        self.told("(fn f ((xs list)) (list 1 0) (give (cons (call g xs) nil))) (fn g ((xs list)) (num 0 0) (give 1))", "f",
                  (((0, 1),), 1, counts(make=1), [("g", ((0, 1),))], (1, 0)))


class Branches(Told):
    def test_less(self):
        self.told(EVEN, "even",
                  (((0, 0),), 1, counts(less=1, sum=1), [("odd", ((0, 0),))], (0, 0)),
                  (((0, 0),), 1, counts(less=1), [], (0, 0)))

    def test_what_stands_in_a_less_is_on_both_paths(self):
        self.told("(fn f ((xs list)) (num 0 0) (less (call f xs) (add 1 (call f nil)) (give (call f xs)) (give 3)))", "f",
                  (((0, 1),), 1, counts(less=1, sum=1), [("f", ((0, 1),)), ("f", ((0, 0),)), ("f", ((0, 1),))], (0, 0)),
                  (((0, 1),), 1, counts(less=1, sum=1), [("f", ((0, 1),)), ("f", ((0, 0),))], (0, 0)))

    def test_list(self):
        self.told(LENGTH, "length",
                  (((0, 0),), 1, counts(open=1), [], (0, 0)),
                  (((1, 1),), 1, counts(open=1, sum=1), [("length", ((0, 1),))], (0, 0)))
        self.told(JOIN, "join",
                  (((0, 0, 0), (0, 0, 1)), 2, counts(open=1), [], (0, 0, 1)),
                  (((1, 1, 0), (0, 0, 1)), 2, counts(open=1, make=1), [("join", ((0, 1, 0), (0, 0, 1)))], (1, 1, 1)))

    def test_tree(self):
        self.told(FLAT, "flat",
                  (((0, 0),), 1, counts(open=1), [], (0, 0)),
                  (((1, 1, 1),), 2, counts(open=1, let=1, make=1),
                   [("flat", ((0, 1, 0),)), ("flat", ((0, 0, 1),)), ("join", ((0, 1, 0), (1, 0, 1)))], (1, 1, 1)))

    def test_the_order_of_paths(self):
        self.told(PUT, "put",
                  (((0, 0, 0), (0, 0, 0)), 2, counts(open=1, make=1), [], (1, 0, 0)),
                  (((0, 0, 0, 0), (1, 0, 1, 1)), 3, counts(open=1, less=1, make=1),
                   [("put", ((0, 0, 0, 0), (0, 0, 1, 0)))], (2, 0, 1, 1)),
                  (((0, 0, 0, 0), (1, 0, 1, 1)), 3, counts(open=1, less=1, make=1),
                   [("put", ((0, 0, 0, 0), (0, 0, 0, 1)))], (2, 0, 1, 1)))

    def test_one_in_another(self):
        program = (
            "(fn f ((xs list) (n num) (t tree)) (num 0 0 0 0)"
            " (less n 0 (list xs (give 1) (h r) (tree t (give 2) (a b c) (give 3)))"
            " (tree t (less n 5 (give 4) (give 5)) (a b c) (list xs (give 6) (h r) (give 7)))))")
        none, x, t = (0, 0, 0, 0), (0, 1, 0, 0), (0, 0, 0, 1)
        self.told(program, "f",
                  ((none, none, t), 3, counts(less=1, open=1), [], none),
                  (((1, 1, 0, 0), none, none), 3, counts(less=1, open=2), [], none),
                  (((1, 1, 0, 0, 0), (0,) * 5, (1, 0, 0, 1, 1)), 4, counts(less=1, open=2), [], (0,) * 5),
                  ((x, none, none), 3, counts(less=2, open=1), [], none),
                  ((x, none, none), 3, counts(less=2, open=1), [], none),
                  (((0,) * 5, (0,) * 5, (1, 0, 0, 1, 1)), 4, counts(less=1, open=2), [], (0,) * 5),
                  (((1, 1, 0, 0, 0), (0,) * 5, (1, 0, 0, 1, 1)), 4, counts(less=1, open=2), [], (0,) * 5))


class Opening(Told):
    def test_what_came_of_an_own_list_is_own(self):
        self.told(
            "(fn f ((xs list)) (list 0 1) (list xs (give xs) (a b) (list b (give xs) (c d) (list d (give b) (e g)"
            " (give (cons a g))))))", "f",
            (((0, 0),), 1, counts(open=1), [], (0, 0)),
            (((1, 0),), 1, counts(open=2), [], (1, 0)),
            (((2, 0),), 1, counts(open=3), [], (1, 0)),
            (((3, 1),), 1, counts(open=3, make=1), [], (1, 1)))

    def test_an_own_one_opened_a_second_time_is_not_own(self):
        self.told(
            "(fn f ((xs list)) (list 0 1) (list xs (give nil) (a b) (list xs (give b) (c d) (give d))))", "f",
            (((0, 0),), 1, counts(open=1), [], (0, 0)),
            (((1, 1),), 1, counts(open=2), [], (0, 1)),
            (((1, 1),), 1, counts(open=2), [], (1, 1)))
        self.told(
            "(fn f ((t tree)) (tree 0 1) (tree t (tree t (give t) (a b c) (give c)) (a b c)"
            " (tree t (give a) (d e g) (give (node d 1 g)))))", "f",
            (((0, 0),), 1, counts(open=2), [], (0, 0)),
            (((0, 0),), 1, counts(open=2), [], (0, 0)),
            (((1, 1, 1),), 2, counts(open=2), [], (0, 1, 0)),
            (((1, 1, 1),), 2, counts(open=2, make=1), [], (3, 2, 2)))

    def test_what_came_of_the_first_opening_is_still_own(self):
        self.told(
            "(fn f ((xs list)) (list 0 1) (list xs (give nil) (a b) (list xs (give b) (c d) (list b (give d) (e g)"
            " (give (cons a d))))))", "f",
            (((0, 0),), 1, counts(open=1), [], (0, 0)),
            (((1, 1),), 1, counts(open=2), [], (0, 1)),
            (((1, 0),), 1, counts(open=3), [], (1, 0)),
            (((2, 1),), 1, counts(open=3, make=1), [], (3, 1)))

    def test_what_let_brought_is_not_own(self):
        self.told(
            "(fn f ((xs list)) (list 0 1) (let a xs (list a (give xs) (b c) (list c (give a) (d e) (give e)))))", "f",
            (((0, 1),), 1, counts(open=1, let=1), [], (0, 1)),
            (((0, 1),), 1, counts(open=2, let=1), [], (0, 1)),
            (((0, 1),), 1, counts(open=2, let=1), [], (0, 1)))
        self.told(
            "(fn f ((t tree)) (tree 0 1) (let a (node t 1 t) (tree a (give a) (b c d) (give (node b c d)))))", "f",
            (((0, 1),), 1, counts(open=1, let=1, make=1), [], (1, 2)),
            (((0, 1),), 1, counts(open=1, let=1, make=2), [], (3, 4)))

    def test_a_param_stays_own_where_what_let_brought_of_it_is_opened(self):
        self.told(
            "(fn f ((xs list)) (list 0 1) (let a xs (list a (give nil) (b c) (list xs (give c) (d e) (give c)))))", "f",
            (((0, 1),), 1, counts(open=1, let=1), [], (0, 0)),
            (((0, 0),), 1, counts(open=2, let=1), [], (0, 0)),
            (((1, 1),), 1, counts(open=2, let=1), [], (1, 1)))

    def test_what_comes_of_what_is_not_own_is_not_own(self):
        self.told(
            "(fn f ((t tree)) (tree 0 1) (let a t (tree a (give leaf) (b c d) (tree b (give d) (e g h) (give h)))))", "f",
            (((0, 1),), 1, counts(open=1, let=1), [], (0, 0)),
            (((0, 1),), 1, counts(open=2, let=1), [], (0, 1)),
            (((0, 1),), 1, counts(open=2, let=1), [], (0, 1)))

    def test_what_stood_ahead_changes_too(self):
        self.told(
            "(fn f ((xs list) (ys list)) (list 0 1 1) (let a (cons 1 (call f xs xs)) (less (call g ys a) 1"
            " (list xs (give a) (h r) (list ys (give a) (i s) (give (call f r a)))) (give a))))"
            " (fn g ((xs list) (ys list)) (num 0 0 0) (give 1))", "f",
            (((0, 0, 0), (0, 0, 1)), 2, counts(let=1, less=1, open=1, make=1),
             [("f", ((0, 0, 0), (0, 0, 0))), ("g", ((0, 0, 1), (1, 0, 0)))], (1, 0, 0)),
            (((1, 1, 0), (0, 0, 0)), 2, counts(let=1, less=1, open=2, make=1),
             [("f", ((1, 1, 0), (1, 1, 0))), ("g", ((0, 0, 0), (3, 2, 0)))], (3, 2, 0)),
            (((1, 1, 0), (1, 0, 1)), 2, counts(let=1, less=1, open=2, make=1),
             [("f", ((1, 1, 0), (1, 1, 0))), ("g", ((1, 0, 1), (3, 2, 0))), ("f", ((0, 1, 0), (3, 2, 0)))], (3, 3, 0)),
            (((0, 1, 0), (0, 0, 1)), 2, counts(let=1, less=1, make=1),
             [("f", ((0, 1, 0), (0, 1, 0))), ("g", ((0, 0, 1), (1, 2, 0)))], (1, 2, 0)))

    def test_what_stood_ahead_of_a_tree_changes_too(self):
        self.told(
            "(fn f ((t tree) (u tree)) (tree 0 1 1) (let a (call f (node t 1 t) u) (tree t (give a) (b c d)"
            " (tree d (give a) (e g h) (tree u (give e) (i j k) (give (node h 1 (node b 1 k))))))))", "f",
            (((0, 0, 0), (0, 0, 1)), 2, counts(let=1, make=1, open=1), [("f", ((1, 0, 0), (0, 0, 1)))], (1, 0, 1)),
            (((1, 1, 0, 0), (0, 0, 1, 0)), 3, counts(let=1, make=1, open=2), [("f", ((3, 2, 0, 0), (0, 0, 1, 0)))],
             (3, 2, 1, 0)),
            (((2, 1, 0, 1, 1), (0, 0, 0, 0, 0)), 4, counts(let=1, make=1, open=3),
             [("f", ((5, 2, 0, 2, 2), (0, 0, 0, 0, 0)))], (0, 0, 0, 1, 0)),
            (((2, 1, 0, 1, 1, 0), (1, 0, 1, 0, 0, 1)), 5, counts(let=1, make=3, open=3),
             [("f", ((5, 2, 0, 2, 2, 0), (1, 0, 1, 0, 0, 1)))], (2, 1, 0, 0, 1, 1)))

    def test_left_and_right_are_own_and_opened_by_turns(self):
        self.told(
            "(fn f ((t tree)) (tree 0 1) (tree t (give t) (a b c) (tree a (give c) (d e g) (tree c (give g) (h i j)"
            " (give (node d 1 (node h 1 j)))))))", "f",
            (((0, 0),), 1, counts(open=1), [], (0, 0)),
            (((1, 0, 1),), 2, counts(open=2), [], (0, 0, 1)),
            (((2, 1, 0, 1),), 3, counts(open=3), [], (0, 0, 0, 1)),
            (((3, 1, 1, 1, 1),), 4, counts(open=3, make=2), [], (2, 1, 1, 0, 1)))

    def test_a_num_that_came_of_opening(self):
        self.told("(fn f ((xs list) (t tree)) (num 0 0 0) (list xs (give 0) (a b) (tree t (give a) (c d e)"
                  " (give (call f (cons a nil) (node leaf d leaf))))))", "f",
                  (((0, 0, 0), (0, 0, 1)), 2, counts(open=1), [], (0, 0, 0)),
                  (((1, 1, 0), (0, 0, 0)), 2, counts(open=2), [], (0, 0, 0)),
                  (((1, 1, 0, 0), (1, 0, 1, 1)), 3, counts(open=2, make=2),
                   [("f", ((1, 0, 0, 0), (1, 0, 0, 0)))], (0, 0, 0, 0)))


class SecondMake:
    """Paths once more, in another way: each size that is opened is told by new ones, and all is put in at the end."""

    def __init__(self, program):
        self.functions = {each[0]: each for each in program}
        self.fresh = 0

    def new(self):
        self.fresh += 1
        return self.fresh

    def paths(self, name):
        params = self.functions[name][1]
        sizes = [self.new() for param in params]
        names = {param: (0, {}) if shape == "num" else (0, {size: 1}) for (param, shape), size in zip(params, sizes)}
        own = {param: size for (param, shape), size in zip(params, sizes) if shape != "num"}
        told = []
        self.walk(self.functions[name][3], names, own, {}, sizes, [], [], told)
        for columns, steps, calls, size, put_in in told:
            yield (tuple(self.line(names[param], columns, put_in) for param, shape in params), len(columns),
                   {kind: (kind == "call") + steps.count(kind) for kind in KINDS},
                   [(called, tuple(self.line(arg, columns, put_in) for arg in args)) for called, args in calls],
                   self.line(size, columns, put_in))

    def line(self, told, columns, put_in):
        number, parts = told[0], dict(told[1])
        while any(size in put_in for size in parts):
            size = next(size for size in parts if size in put_in)
            by = parts.pop(size)
            number += by * put_in[size][0]
            for other, times in put_in[size][1].items():
                parts[other] = parts.get(other, 0) + by * times
        return (number,) + tuple(parts.pop(column, 0) for column in columns)

    def walk(self, body, names, own, put_in, columns, steps, calls, told):
        steps, calls = list(steps), list(calls)
        if body[0] == "give":
            size = self.value(body[1], names, steps, calls)
            told.append((columns, steps, calls, size, put_in))
        elif body[0] == "let":
            value = self.value(body[2], names, steps, calls)
            self.walk(body[3], {**names, body[1]: value}, own, put_in, columns, steps + ["let"], calls, told)
        elif body[0] == "less":
            self.value(body[1], names, steps, calls)
            self.value(body[2], names, steps, calls)
            for part in body[3:]:
                self.walk(part, names, own, put_in, columns, steps + ["less"], calls, told)
        else:
            rest = {name: size for name, size in own.items() if name != body[1]}
            size = own.get(body[1])
            empty = put_in if size is None else {**put_in, size: (0, {})}
            self.walk(body[2], names, rest, empty, columns, steps + ["open"], calls, told)
            brought = {name: (0, {}) for name in body[3:-1]}
            parts = [body[4]] if body[0] == "list" else [body[3], body[5]]
            if size is None:
                brought.update({part: names[body[1]] for part in parts})
                self.walk(body[-1], {**names, **brought}, rest, put_in, columns, steps + ["open"], calls, told)
                return
            new = [self.new() for part in parts]
            brought.update({part: (0, {each: 1}) for part, each in zip(parts, new)})
            wider = [new[0] if column == size else column for column in columns] + new[1:]
            self.walk(body[-1], {**names, **brought}, {**rest, **dict(zip(parts, new))},
                      {**put_in, size: (1, {each: 1 for each in new})}, wider, steps + ["open"], calls, told)

    def value(self, e, names, steps, calls):
        if e[0] == "var":
            return names[e[1]]
        if e[0] == "call":
            args = [self.value(part, names, steps, calls) for part in e[2]]
            calls.append((e[1], args))
            return self.together(self.functions[e[1]][2][1], args)
        parts = [self.value(part, names, steps, calls) for part in e[1:] if isinstance(part, tuple)]
        if e[0] in ("cons", "node"):
            steps.append("make")
            return self.together([1] + [1] * len(parts), parts)
        if e[0] in ("add", "sub"):
            steps.append("sum")
        return (0, {})

    def together(self, line, parts):
        number, told = line[0], {}
        for by, part in zip(line[1:], parts):
            number += by * part[0]
            for size, times in part[1].items():
                told[size] = told.get(size, 0) + by * times
        return (number, told)


class AgainstASecondMake(unittest.TestCase):
    def test_many_programs(self):
        chance = random.Random(21)
        for time in range(300):
            for program in (any_program(chance), measured_program(chance)):
                for function in program:
                    due = list(SecondMake(program).paths(function[0]))
                    self.assertEqual(paths_of(program, function[0]), due, (program, function[0]))


if __name__ == "__main__":
    unittest.main()
