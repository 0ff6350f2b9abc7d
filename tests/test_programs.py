import copy
import unittest

from tests.samples import EVEN, LENGTH, SAMPLES, ZERO, function, giving, one
from toll.programs import right

NO_NAMES = (
    "", "a" * 9, "abcdefghijk", "A", "aB", "Abc", "abC", "a1", "1", "12", "a b", " ", " a", "a ", "a\n", "\n",
    "nil", "leaf", "-", "a-b", "a_b", "_", "(", ")", "(a)", "\t", "\u00e9", "\u00df", "a\u0301", "\u03b1", "a\x00",
)
NAMES = ("a", "z", "abcdefgh", "zzzzzzzz", "let", "num", "fn", "list", "tree", "give", "less", "call", "var",
         "cons", "node", "add", "sub", "nill", "leafs", "ni", "lea")
NO_SHAPES = ("", "n", "nums", "Num", "num ", " num", "lists", "LIST", "tre", "leaf", "nil", "int", "numlist")


def nums(many):
    return tuple(("abcdefghi"[number], "num") for number in range(many))


class Right(unittest.TestCase):
    def is_right(self, program):
        kept = copy.deepcopy(program)
        self.assertIs(right(program), True, program)
        self.assertIs(right(program), True, "asked again")
        self.assertEqual(program, kept)

    def is_wrong(self, program):
        kept = copy.deepcopy(program)
        self.assertIs(right(program), False, program)
        self.assertIs(right(program), False, "asked again")
        self.assertEqual(program, kept)


class Ordinary(Right):
    def test_samples(self):
        for text, program in SAMPLES:
            self.is_right(program)

    def test_functions_in_any_order(self):
        for text, program in SAMPLES:
            self.is_right(tuple(reversed(program)))

    def test_each_kind_of_expression(self):
        self.is_right(giving(("num", -7)))
        self.is_right(giving(("num", 10 ** 59)))
        self.is_right(giving(("var", "n")))
        self.is_right(giving(("var", "xs"), "list"))
        self.is_right(giving(("var", "t"), "tree"))
        self.is_right(giving(("nil",), "list"))
        self.is_right(giving(("cons", ("var", "n"), ("var", "xs")), "list"))
        self.is_right(giving(("leaf",), "tree"))
        self.is_right(giving(("node", ("var", "t"), ("num", 1), ("leaf",)), "tree"))
        self.is_right(giving(("add", ("var", "n"), ("num", 2))))
        self.is_right(giving(("sub", ("num", 2), ("var", "n"))))
        self.is_right(giving(("call", "f", (("var", "n"), ("var", "xs"), ("var", "t")))))

    def test_each_kind_of_body(self):
        self.is_right(one(body=("let", "a", ("var", "n"), ("give", ("var", "a")))))
        self.is_right(one(body=("less", ("var", "n"), ("num", 3), ZERO, ("give", ("var", "n")))))
        self.is_right(one(body=("list", "xs", ZERO, "h", "r", ("give", ("var", "h")))))
        self.is_right(one(body=("tree", "t", ZERO, "l", "v", "r", ("give", ("var", "v")))))

    def test_what_let_brings_has_the_shape_of_its_expression(self):
        self.is_right(one(body=("let", "a", ("nil",), ("list", "a", ZERO, "h", "r", ZERO))))
        self.is_right(one(body=("let", "a", ("leaf",), ("tree", "a", ZERO, "l", "v", "r", ZERO))))
        self.is_wrong(one(body=("let", "a", ("leaf",), ("list", "a", ZERO, "h", "r", ZERO))))
        self.is_wrong(one(body=("let", "a", ("nil",), ("give", ("var", "a")))))

    def test_what_opening_brings_has_its_shapes(self):
        def opened(kind, x, brought, asked, shape):
            handed_on = ("give", ("call", shape, (("var", asked),)))
            takers = tuple(function(name=taken, params=(("p", taken),)) for taken in ("num", "list", "tree"))
            return one(body=(kind, x, ZERO) + brought + (handed_on,)) + takers

        told = (
            ("list", "xs", ("h", "r"), {"h": "num", "r": "list"}),
            ("tree", "t", ("l", "v", "r"), {"l": "tree", "v": "num", "r": "tree"}),
        )
        for kind, x, brought, shapes in told:
            for asked in brought:
                for shape in ("num", "list", "tree"):
                    program = opened(kind, x, brought, asked, shape)
                    if shapes[asked] == shape:
                        self.is_right(program)
                    else:
                        self.is_wrong(program)

    def test_an_opened_thing_still_stands_and_may_be_opened_again(self):
        again = ("list", "xs", ZERO, "hh", "rr", ZERO)
        self.is_right(one(body=("list", "xs", again, "h", "r", again)))
        again = ("tree", "t", ZERO, "ll", "vv", "rr", ZERO)
        self.is_right(one(body=("tree", "t", again, "l", "v", "r", again)))

    def test_functions_may_call_one_another_and_themselves(self):
        self.is_right(EVEN)
        self.is_right(LENGTH)
        self.is_right(one(params=(("n", "num"),), body=("give", ("call", "f", (("call", "f", (("var", "n"),)),)))))

    def test_one_name_in_two_bodies_beside_one_another(self):
        let = ("let", "a", ("num", 1), ("give", ("var", "a")))
        self.is_right(one(body=("less", ("num", 0), ("num", 1), let, let)))
        self.is_right(one(body=("list", "xs", let, "h", "r", let)))
        self.is_right(one(body=("tree", "t", let, "l", "v", "r", let)))
        opened = ("list", "xs", ZERO, "h", "r", ZERO)
        self.is_right(one(body=("less", ("num", 0), ("num", 1), opened, opened)))
        self.is_right(one(body=("list", "xs", ("let", "h", ("num", 1), ZERO), "h", "r", ZERO)))
        self.is_right(one(body=("tree", "t", ("let", "v", ("num", 1), ZERO), "l", "v", "r", ZERO)))

    def test_one_name_in_two_functions(self):
        self.is_right((function(name="f"), function(name="g")))

    def test_a_name_may_be_that_of_a_function(self):
        self.is_right(one(params=(("f", "num"),), body=("give", ("call", "f", (("var", "f"),)))))
        self.is_right(one(body=("let", "f", ("num", 1), ("give", ("var", "f")))))


class Edges(Right):
    def test_how_many_functions(self):
        self.is_wrong(())
        for many in range(1, 9):
            self.is_right(tuple(function(name="abcdefghi"[number]) for number in range(many)))
        for many in (9, 10):
            self.is_wrong(tuple(function(name="abcdefghij"[number]) for number in range(many)))

    def test_how_many_params(self):
        self.is_wrong(one(params=()))
        for many in range(1, 5):
            self.is_right(one(params=nums(many)))
        for many in (5, 6):
            self.is_wrong(one(params=nums(many)))

    def test_names_that_are_some(self):
        for name in NAMES:
            with self.subTest(name):
                self.is_right(one(name=name))
                self.is_right(one(params=((name, "num"),), body=("give", ("var", name))))
                self.is_right(one(params=(("pq", "num"),), body=("let", name, ("num", 1), ("give", ("var", name)))))
                self.is_right(one(body=("list", "xs", ZERO, name, "pq", ("give", ("var", name)))))
                self.is_right(one(body=("tree", "t", ZERO, "pq", name, "qp", ("give", ("var", name)))))

    def test_names_that_are_none(self):
        for name in NO_NAMES:
            with self.subTest(name):
                self.is_wrong(one(name=name))
                self.is_wrong(one(params=((name, "num"),)))
                self.is_wrong(one(params=(("a", "num"), (name, "num"))))
                self.is_wrong(one(body=("let", name, ("num", 1), ZERO)))
                self.is_wrong(one(body=("list", "xs", ZERO, name, "r", ZERO)))
                self.is_wrong(one(body=("list", "xs", ZERO, "h", name, ZERO)))
                self.is_wrong(one(body=("tree", "t", ZERO, name, "v", "r", ZERO)))
                self.is_wrong(one(body=("tree", "t", ZERO, "l", name, "r", ZERO)))
                self.is_wrong(one(body=("tree", "t", ZERO, "l", "v", name, ZERO)))

    def test_no_name_in_a_later_function(self):
        for name in NO_NAMES:
            self.is_wrong((function(), function(name=name)))

    def test_shapes_that_are_none(self):
        for shape in NO_SHAPES:
            with self.subTest(shape):
                self.is_wrong(one(params=(("a", shape),)))
                self.is_wrong(one(params=(("a", "num"), ("b", shape))))
                self.is_wrong(one(gives=(shape, (0, 0, 0, 0))))
                self.is_wrong(one(params=(("a", shape),), gives=(shape, (0, 0)), body=("give", ("var", "a"))))

    def test_bodies_ten_deep_and_expressions_six_deep(self):
        expression = ("num", 1)
        for depth in range(5):
            expression = ("add", expression, ("var", "n"))
        body = ("give", expression)
        for depth in range(9):
            body = ("let", "abcdefghi"[depth], expression, body)
        self.is_right(one(body=body))
        self.is_wrong(one(body=("let", "a", ("num", 1), body)))


class Sizes(Right):
    def test_numbers_of_a_size(self):
        params = (("xs", "list"), ("t", "tree"))
        for shape, expression in (("list", ("nil",)), ("tree", ("leaf",))):
            body = ("give", expression)
            for size in ((0, 0, 0), (1, 0, 0), (0, 2, 0), (0, 0, 3), (10 ** 59, 10 ** 59, 10 ** 59)):
                self.is_right(one(params=params, gives=(shape, size), body=body))
            for size in ((), (0,), (0, 0), (0, 0, 0, 0), (1, 1, 1, 1), (0,) * 5):
                self.is_wrong(one(params=params, gives=(shape, size), body=body))
            for size in ((-1, 0, 0), (0, -1, 0), (0, 0, -1), (5, 5, -10 ** 59), (1, -1, 0)):
                self.is_wrong(one(params=params, gives=(shape, size), body=body))

    def test_too_few_and_too_many_where_the_value_is_a_num(self):
        for size in ((), (0,), (0, 0, 0), (0,) * 5):
            self.is_wrong(one(params=(("n", "num"),), gives=("num", size)))

    def test_the_number_of_a_num_is_nought(self):
        params = (("n", "num"), ("xs", "list"), ("m", "num"), ("t", "tree"))
        for shape, expression in (("list", ("nil",)), ("tree", ("leaf",))):
            body = ("give", expression)
            self.is_right(one(params=params, gives=(shape, (4, 0, 5, 0, 6)), body=body))
            self.is_wrong(one(params=params, gives=(shape, (0, 1, 0, 0, 0)), body=body))
            self.is_wrong(one(params=params, gives=(shape, (0, 0, 0, 1, 0)), body=body))
            self.is_wrong(one(params=params, gives=(shape, (4, 0, 5, 2, 6)), body=body))

    def test_all_numbers_are_nought_where_the_value_is_a_num(self):
        for size in ((1, 0, 0, 0), (0, 1, 0, 0), (0, 0, 1, 0), (0, 0, 0, 1), (2, 0, 3, 4), (-1, 0, 0, 0),
                     (1, 0, 0, -1)):
            self.is_wrong(one(gives=("num", size)))

    def test_sizes_need_not_hold(self):
        params = (("xs", "list"),)
        self.is_right(one(params=params, gives=("list", (0, 0)), body=("give", ("var", "xs"))))

    def test_truths_are_no_whole_numbers(self):
        params = (("xs", "list"),)
        self.is_wrong(one(params=params, gives=("list", (True, 0)), body=("give", ("nil",))))
        self.is_wrong(one(params=params, gives=("num", (False, 0))))
        self.is_wrong(giving(("num", True)))
        self.is_wrong(giving(("num", "1")))


class Names(Right):
    def test_functions_alike_in_name(self):
        self.is_wrong((function(), function()))
        self.is_wrong((function(name="a"), function(name="b"), function(name="a")))
        self.is_wrong((function(), function(params=(("p", "num"),))))

    def test_params_alike_in_name(self):
        self.is_wrong(one(params=(("a", "num"), ("a", "num"))))
        self.is_wrong(one(params=(("a", "num"), ("b", "num"), ("a", "list"))))

    def test_a_name_brought_that_is_a_param(self):
        for name in ("n", "xs", "t"):
            self.is_wrong(one(body=("let", name, ("num", 1), ZERO)))
            self.is_wrong(one(body=("list", "xs", ZERO, name, "b", ZERO)))
            self.is_wrong(one(body=("list", "xs", ZERO, "a", name, ZERO)))
            self.is_wrong(one(body=("tree", "t", ZERO, name, "b", "c", ZERO)))
            self.is_wrong(one(body=("tree", "t", ZERO, "a", name, "c", ZERO)))
            self.is_wrong(one(body=("tree", "t", ZERO, "a", "b", name, ZERO)))

    def test_a_name_brought_that_a_body_around_brought(self):
        again = ("let", "a", ("num", 1), ZERO)
        deeper = ("less", ("num", 0), ("num", 1), ZERO, again)
        for inner in (again, deeper):
            self.is_wrong(one(body=("let", "a", ("num", 1), inner)))
            self.is_wrong(one(body=("list", "xs", ZERO, "a", "b", inner)))
            self.is_wrong(one(body=("list", "xs", ZERO, "b", "a", inner)))
            self.is_wrong(one(body=("tree", "t", ZERO, "a", "b", "c", inner)))
            self.is_wrong(one(body=("tree", "t", ZERO, "b", "a", "c", inner)))
            self.is_wrong(one(body=("tree", "t", ZERO, "b", "c", "a", inner)))
        opened = ("list", "xs", ZERO, "h", "r", ZERO)
        self.is_wrong(one(body=("list", "xs", ZERO, "h", "q", opened)))
        self.is_wrong(one(body=("list", "xs", ("let", "n", ("num", 1), ZERO), "h", "r", ZERO)))

    def test_two_brought_alike(self):
        self.is_wrong(one(body=("list", "xs", ZERO, "a", "a", ZERO)))
        self.is_wrong(one(body=("tree", "t", ZERO, "a", "a", "b", ZERO)))
        self.is_wrong(one(body=("tree", "t", ZERO, "a", "b", "a", ZERO)))
        self.is_wrong(one(body=("tree", "t", ZERO, "b", "a", "a", ZERO)))

    def test_a_name_that_stands_nowhere(self):
        self.is_wrong(giving(("var", "a")))
        self.is_wrong(giving(("var", "f")))
        self.is_wrong(giving(("add", ("num", 1), ("var", "a"))))
        self.is_wrong(giving(("call", "f", (("var", "a"), ("nil",), ("leaf",)))))
        self.is_wrong(one(body=("list", "a", ZERO, "h", "r", ZERO)))
        self.is_wrong(one(body=("tree", "a", ZERO, "l", "v", "r", ZERO)))
        self.is_wrong(one(body=("less", ("var", "a"), ("num", 1), ZERO, ZERO)))
        self.is_wrong(one(body=("let", "b", ("var", "a"), ZERO)))

    def test_a_param_of_another_function(self):
        self.is_wrong((function(params=(("a", "num"),)), function(name="g", body=("give", ("var", "a")))))

    def test_a_name_asked_for_in_the_let_that_brings_it(self):
        self.is_wrong(one(body=("let", "a", ("var", "a"), ZERO)))
        self.is_wrong(one(body=("let", "a", ("add", ("num", 1), ("var", "a")), ZERO)))

    def test_a_name_asked_for_where_the_list_is_empty_or_the_tree_a_leaf(self):
        for name in ("h", "r"):
            give = ("let", "a", ("var", name), ZERO)
            self.is_wrong(one(body=("list", "xs", give, "h", "r", ZERO)))
            self.is_right(one(body=("list", "xs", ZERO, "h", "r", give)))
        for name in ("l", "v", "r"):
            give = ("let", "a", ("var", name), ZERO)
            self.is_wrong(one(body=("tree", "t", give, "l", "v", "r", ZERO)))
            self.is_right(one(body=("tree", "t", ZERO, "l", "v", "r", give)))

    def test_a_name_asked_for_beside_the_body_that_brings_it(self):
        let = ("let", "a", ("num", 1), ZERO)
        asked = ("give", ("var", "a"))
        self.is_wrong(one(body=("less", ("num", 0), ("num", 1), let, asked)))
        self.is_wrong(one(body=("less", ("num", 0), ("num", 1), asked, let)))
        self.is_wrong(one(body=("list", "xs", let, "h", "r", asked)))


class Calls(Right):
    def test_functions_that_are_none(self):
        self.is_wrong(giving(("call", "g", (("var", "n"), ("var", "xs"), ("var", "t")))))
        self.is_wrong(giving(("call", "n", (("var", "n"), ("var", "xs"), ("var", "t")))))
        self.is_wrong(giving(("call", "", ())))

    def test_an_arg_too_few_or_too_many(self):
        args = (("var", "n"), ("var", "xs"), ("var", "t"), ("num", 1))
        self.is_right(giving(("call", "f", args[:3])))
        for many in (0, 1, 2, 4):
            self.is_wrong(giving(("call", "f", args[:many])))

    def test_args_of_another_shape(self):
        self.is_wrong(giving(("call", "f", (("nil",), ("nil",), ("leaf",)))))
        self.is_wrong(giving(("call", "f", (("num", 1), ("leaf",), ("leaf",)))))
        self.is_wrong(giving(("call", "f", (("num", 1), ("nil",), ("num", 1)))))
        self.is_wrong(giving(("call", "f", (("leaf",), ("num", 1), ("nil",)))))

    def test_the_value_of_a_call_has_the_shape_that_its_function_tells(self):
        for shape in ("num", "list", "tree"):
            for given, expression in (("num", ("num", 1)), ("list", ("nil",)), ("tree", ("leaf",))):
                called = function(name="g", params=(("p", "num"),), gives=(given, (0, 0)), body=("give", expression))
                program = giving(("call", "g", (("num", 1),)), shape) + (called,)
                if shape == given:
                    self.is_right(program)
                else:
                    self.is_wrong(program)

    def test_a_function_that_nobody_calls_is_looked_at_too(self):
        self.is_wrong((function(), function(name="g", body=("give", ("nil",)))))
        self.is_wrong((function(name="g", body=("give", ("nil",))), function()))


class Shapes(Right):
    def test_something_of_another_shape_opened(self):
        for name in ("n", "t"):
            self.is_wrong(one(body=("list", name, ZERO, "h", "r", ZERO)))
        for name in ("n", "xs"):
            self.is_wrong(one(body=("tree", name, ZERO, "l", "v", "r", ZERO)))

    def test_something_of_another_shape_compared(self):
        for wrong in (("nil",), ("leaf",), ("var", "xs"), ("var", "t")):
            self.is_wrong(one(body=("less", wrong, ("num", 1), ZERO, ZERO)))
            self.is_wrong(one(body=("less", ("num", 1), wrong, ZERO, ZERO)))
            self.is_wrong(one(body=("less", wrong, wrong, ZERO, ZERO)))

    def test_something_of_another_shape_put_together(self):
        some = {"num": ("var", "n"), "list": ("var", "xs"), "tree": ("var", "t")}
        forms = {
            "cons": (("num", "list"), "list"),
            "node": (("tree", "num", "tree"), "tree"),
            "add": (("num", "num"), "num"),
            "sub": (("num", "num"), "num"),
        }
        for kind, (shapes, made) in forms.items():
            parts = tuple(some[shape] for shape in shapes)
            self.is_right(giving((kind,) + parts, made))
            for place, due in enumerate(shapes):
                for shape in some:
                    if shape != due:
                        changed = parts[:place] + (some[shape],) + parts[place + 1:]
                        self.is_wrong(giving((kind,) + changed, made))

    def test_something_of_another_shape_given(self):
        some = {
            "num": (("num", 1), ("var", "n"), ("add", ("num", 1), ("num", 2)), ("sub", ("num", 1), ("num", 2))),
            "list": (("nil",), ("var", "xs"), ("cons", ("num", 1), ("nil",))),
            "tree": (("leaf",), ("var", "t"), ("node", ("leaf",), ("num", 1), ("leaf",))),
        }
        for shape in some:
            for due in some:
                for expression in some[shape]:
                    if shape == due:
                        self.is_right(giving(expression, due))
                    else:
                        self.is_wrong(giving(expression, due))

    def test_each_give_of_a_body_is_looked_at(self):
        wrong = ("give", ("nil",))
        self.is_wrong(one(body=("let", "a", ("num", 1), wrong)))
        self.is_wrong(one(body=("less", ("num", 0), ("num", 1), wrong, ZERO)))
        self.is_wrong(one(body=("less", ("num", 0), ("num", 1), ZERO, wrong)))
        self.is_wrong(one(body=("list", "xs", wrong, "h", "r", ZERO)))
        self.is_wrong(one(body=("list", "xs", ZERO, "h", "r", wrong)))
        self.is_wrong(one(body=("tree", "t", wrong, "l", "v", "r", ZERO)))
        self.is_wrong(one(body=("tree", "t", ZERO, "l", "v", "r", wrong)))

    def test_kinds_that_are_none(self):
        self.is_wrong(giving(("mul", ("num", 1), ("num", 2))))
        self.is_wrong(one(body=("num", "n", ZERO, "a", "b", ZERO)))
        self.is_wrong(one(body=("if", "n", ZERO, ZERO)))

    def test_what_is_wrong_within_an_expression(self):
        wrong = ("add", ("num", 1), ("nil",))
        self.is_wrong(one(body=("let", "a", wrong, ZERO)))
        self.is_wrong(giving(("add", wrong, ("num", 1))))
        self.is_wrong(giving(("cons", wrong, ("nil",)), "list"))
        self.is_wrong(giving(("node", ("leaf",), wrong, ("leaf",)), "tree"))
        self.is_wrong(giving(("call", "f", (wrong, ("nil",), ("leaf",)))))
        self.is_wrong(one(body=("let", "a", ("cons", ("num", 1), ("leaf",)), ZERO)))


if __name__ == "__main__":
    unittest.main()
