import random
import unittest

from tests.samples import LENGTH, LENGTH_TEXT, SAMPLES, any_program
from toll.errors import NoProgram, NoText
from toll.programs import right
from toll.texts import read, show

GREAT = "9" * 60


def rows(text):
    return [row.strip() for row in text.strip().split("\n")]


NO_FUNCTIONS = rows("""
    (fn)
    (fn f)
    (fn f ((n num)))
    (fn f ((n num)) (num 0 0))
    (fn ((n num)) (num 0 0) (give 0))
    (fn f (num 0 0) (give 0))
    (fn f ((n num)) (give 0))
    (fn f ((n num)) (num 0 0) (give 0) (give 0))
    (fn f ((n num)) (num 0 0) (give 0) 0)
    (fn f g ((n num)) (num 0 0) (give 0))
    (fn f ((n num)) () (num 0 0) (give 0))
    (fn f ((n)) (num 0 0) (give 0))
    (fn f ((n num num)) (num 0 0) (give 0))
    (fn f (()) (num 0 0) (give 0))
    (fn f ((n num) ()) (num 0 0 0) (give 0))
    (fn f (n num) (num 0 0) (give 0))
    (fn f n (num 0 0) (give 0))
    (fn f ((n num)) () (give 0))
    (fn f ((n num)) num (give 0))
    (fn f ((n num)) (num 0 0) ())
    (fn f ((n num)) (num 0 (0)) (give 0))
    (fn f ((n num)) ((num) 0 0) (give 0))
    (give 0)
    fn
    f
    7
    nil
    -1
    (f ((n num)) (num 0 0) (give 0))
    (fun f ((n num)) (num 0 0) (give 0))
    (FN f ((n num)) (num 0 0) (give 0))
    (let f ((n num)) (num 0 0) (give 0))
    ((fn) f ((n num)) (num 0 0) (give 0))
    (nil f ((n num)) (num 0 0) (give 0))
    (1 f ((n num)) (num 0 0) (give 0))
""")

NO_BODIES = rows("""
    (give)
    (give 0 0)
    (let a 1)
    (let 1 (give 0))
    (let a (give 0))
    (let a 1 (give 0) (give 0))
    (let a b 1 (give 0))
    (let)
    (less 0 1 (give 0))
    (less 0 (give 0) (give 0))
    (less)
    (less 0 1 (give 0) (give 0) (give 0))
    (less 0 1 2 (give 0) (give 0))
    (list xs (give 0) (give 0))
    (list xs (give 0) (h r))
    (list xs (h r) (give 0))
    (list xs (give 0) (h) (give 0))
    (list xs (give 0) () (give 0))
    (list)
    (list xs (give 0) (h r q) (give 0))
    (list xs (give 0) h r (give 0))
    (list xs (give 0) hr (give 0))
    (list xs (give 0) h (give 0))
    (list xs (give 0) (h r) (give 0) (give 0))
    (list (give 0) (h r) (give 0))
    (list (xs) (give 0) (h r) (give 0))
    (list nil (give 0) (h r) (give 0))
    (tree t (give 0) (give 0))
    (tree t (give 0) (l v) (give 0))
    (tree t (give 0) () (give 0))
    (tree t (give 0) (l v r q) (give 0))
    (tree t (give 0) l v r (give 0))
    (tree t (give 0) lvr (give 0))
    (tree)
    (tree t (give 0) (l v r))
    (tree t (give 0) (l v r) (give 0) (give 0))
    0
    n
    nil
    (add 1 2)
    (call f 1 nil leaf)
    (nil)
    (gave 0)
    (Give 0)
    (fn 0)
    (1 0)
    ((give 0))
    ((give) 0)
    (if 0 1 (give 0) (give 0))
    (let a (give 0) (give 0))
    (give (give 0))
    (let a 1 0)
    (let a 1 (add 1 2))
    (less 0 1 0 (give 0))
    (less 0 1 (give 0) 0)
    (less (give 0) 1 (give 0) (give 0))
    (list xs 0 (h r) (give 0))
    (list xs (give 0) (h r) 0)
    (tree t 0 (l v r) (give 0))
    (tree t (give 0) (l v r) 0)
    (give (mul 1 2))
    (give (f 1 nil leaf))
    (give (let a 1 2))
""")

NO_EXPRESSIONS = rows("""
    ()
    (cons)
    (cons 1)
    (cons 1 nil nil)
    (node)
    (node leaf 1)
    (node leaf 1 leaf leaf)
    (add)
    (add 1)
    (add 1 2 3)
    (sub)
    (sub 1)
    (sub 1 2 3)
    (call)
    (call (f 1 nil leaf))
    (call (f) 1 nil leaf)
    (nil)
    (leaf)
    (n)
    (1)
    (5 6)
    (num 1)
    (var n)
    ((add 1 2))
    ((add) 1 2)
""")


def with_body(body, gives="(num 0 0 0 0)"):
    return "(fn f ((n num) (xs list) (t tree)) " + gives + " " + body + ")"


def body_read(body, gives="(num 0 0 0 0)"):
    return read(with_body(body, gives))[0][3]


def given(expression, shape="num"):
    """What an expression is read to, in a function that gives one of its shape."""
    body = body_read("(give " + expression + ")", "(" + shape + " 0 0 0 0)")
    return body[1]


def functions(many):
    return " ".join("(fn " + "abcdefghij"[number] + " ((n num)) (num 0 0) (give n))" for number in range(many))


def params(many):
    """A function of so many params, with as many numbers of its size as it ought to have."""
    told = " ".join("(" + "abcdef"[number] + " num)" for number in range(many))
    return "(fn f (" + told + ") (num" + " 0" * (many + 1) + ") (give 1))"


class Reading(unittest.TestCase):
    def test_samples(self):
        for text, program in SAMPLES:
            with self.subTest(text):
                self.assertEqual(read(text), program)
                self.assertEqual(read(text), program)

    def test_what_is_read_is_right_and_made_of_tuples(self):
        def only_tuples(thing):
            if isinstance(thing, tuple):
                return all(only_tuples(part) for part in thing)
            return thing.__class__ in (str, int)

        for text, program in SAMPLES:
            told = read(text)
            self.assertTrue(right(told))
            self.assertTrue(only_tuples(told))

    def test_a_function(self):
        self.assertEqual(
            read("(fn f ((a num) (b list) (c tree)) (list 3 0 20 1) (give b))"),
            (("f", (("a", "num"), ("b", "list"), ("c", "tree")), ("list", (3, 0, 20, 1)), ("give", ("var", "b"))),))

    def test_functions_stand_in_their_order(self):
        for many in range(1, 9):
            told = read(functions(many))
            self.assertEqual([function[0] for function in told], list("abcdefgh"[:many]))

    def test_bodies(self):
        zero = ("give", ("num", 0))
        give = ("give", ("var", "n"))
        self.assertEqual(body_read("(give 0)"), zero)
        self.assertEqual(body_read("(let a 5 (give n))"), ("let", "a", ("num", 5), give))
        self.assertEqual(
            body_read("(less n 5 (give 0) (give n))"), ("less", ("var", "n"), ("num", 5), zero, give))
        self.assertEqual(
            body_read("(list xs (give 0) (h r) (give n))"), ("list", "xs", zero, "h", "r", give))
        self.assertEqual(
            body_read("(tree t (give 0) (l v r) (give n))"), ("tree", "t", zero, "l", "v", "r", give))

    def test_expressions(self):
        self.assertEqual(given("17"), ("num", 17))
        self.assertEqual(given("n"), ("var", "n"))
        self.assertEqual(given("nil", "list"), ("nil",))
        self.assertEqual(given("leaf", "tree"), ("leaf",))
        self.assertEqual(given("(cons 1 xs)", "list"), ("cons", ("num", 1), ("var", "xs")))
        self.assertEqual(given("(node t 2 leaf)", "tree"), ("node", ("var", "t"), ("num", 2), ("leaf",)))
        self.assertEqual(given("(add n 1)"), ("add", ("var", "n"), ("num", 1)))
        self.assertEqual(given("(sub n 1)"), ("sub", ("var", "n"), ("num", 1)))
        self.assertEqual(
            given("(call f 1 nil leaf)"), ("call", "f", (("num", 1), ("nil",), ("leaf",))))

    def test_numbers(self):
        for number in (0, 1, 9, 10, 100, 305, int(GREAT), 10 ** 59, -1, -10, -int(GREAT)):
            self.assertEqual(given(str(number)), ("num", number))
        self.assertEqual(
            read("(fn f ((xs list)) (list " + GREAT + " 10) (give xs))")[0][2], ("list", (int(GREAT), 10)))

    def test_words_of_the_language_may_be_names(self):
        words = ("fn", "give", "let", "less", "list", "tree", "cons", "node", "add", "sub", "call", "num", "var")
        for word in words:
            with self.subTest(word):
                text = "(fn %s ((%s num)) (num 0 0) (let q (call %s %s) (give %s)))" % ((word,) * 5)
                self.assertEqual(read(text), (
                    (word, ((word, "num"),), ("num", (0, 0)),
                     ("let", "q", ("call", word, (("var", word),)), ("give", ("var", word)))),))
                body = body_read("(list xs (give 0) (%s q) (let r %s (give r)))" % (word, word))
                self.assertEqual(body, (
                    "list", "xs", ("give", ("num", 0)), word, "q", ("let", "r", ("var", word), ("give", ("var",
                                                                                                         "r")))))

    def test_names_of_one_and_of_eight_letters(self):
        for name in ("a", "z", "abcdefgh", "zzzzzzzz", "nill", "leafs"):
            self.assertEqual(read("(fn %s ((%s num)) (num 0 0) (give %s))" % (name, name, name))[0][0], name)

    def test_bodies_ten_deep_and_expressions_six_deep(self):
        expression = ("num", 1)
        told = "1"
        for depth in range(5):
            expression = ("add", expression, ("var", "n"))
            told = "(add " + told + " n)"
        body = ("give", expression)
        text = "(give " + told + ")"
        for name in "abcdeghij":
            body = ("let", name, expression, body)
            text = "(let " + name + " " + told + " " + text + ")"
        self.assertEqual(body_read(text), body)


class Between(unittest.TestCase):
    def test_several_blanks_and_line_ends_everywhere(self):
        for text, program in SAMPLES:
            for gap in ("  ", "\n", " \n ", "\n\n\n", "     \n"):
                spread = text.replace("(", " ( ").replace(")", " ) ").replace(" ", gap)
                self.assertEqual(read(spread), program)
                self.assertEqual(read(gap + spread + gap), program)

    def test_none_where_none_need_stand(self):
        text = "(fn f((n num)(xs list))(num 0 0 0)(less(add n 1)(sub n 1)(give(call f 1 nil))(give 0)))"
        spread = "(fn f ((n num) (xs list)) (num 0 0 0) (less (add n 1) (sub n 1) (give (call f 1 nil)) (give 0)))"
        self.assertEqual(read(text), read(spread))
        self.assertEqual(read(text + text.replace(" f", " g"))[1][0], "g")
        text = "(fn f((xs list)(t tree))(num 0 0 0)(list xs(give 0)(h r)(tree t(give h)(l v q)(give v))))"
        self.assertEqual(
            read(text)[0][3][5], ("tree", "t", ("give", ("var", "h")), "l", "v", "q", ("give", ("var", "v"))))

    def test_one_at_least_between_two_words(self):
        for text in ("(fnf ((n num)) (num 0 0) (give n))", "(fn f ((nnum)) (num 0 0) (give n))",
                     "(fn f ((n num)) (num0 0) (give n))", "(fn f ((n num)) (num 0 0) (given))",
                     "(fn f ((n num)) (num 0 0) (give (add 1n)))", "(fn f ((n num)) (num 0 0) (give (add n1)))",
                     "(fn f ((n num)) (num 0 0) (give (add n-1)))", "(fn f ((n num)) (num 0 0) (give (add 1-1)))"):
            with self.assertRaises(NoText):
                read(text)


class Refused(unittest.TestCase):
    def refused(self, refusal, text):
        with self.subTest(repr(text)):
            with self.assertRaises(refusal):
                read(text)
            # What is refused leaves nothing behind.
            self.assertEqual(read(LENGTH_TEXT), LENGTH)
            with self.assertRaises(refusal):
                read(text)

    def no_texts(self, texts):
        for text in texts:
            self.refused(NoText, text)

    def no_programs(self, texts):
        for text in texts:
            self.refused(NoProgram, text)


class NoTexts(Refused):
    def test_what_is_no_text(self):
        self.no_texts((None, 0, 5, True, 1.5, b"", LENGTH_TEXT.encode(), [], [LENGTH_TEXT], (), LENGTH, {}, object()))

    def test_brackets(self):
        self.no_texts(("(", ")", ")(", "()", "(())", "(", LENGTH_TEXT + ")", "(" + LENGTH_TEXT, LENGTH_TEXT[:-1],
                       LENGTH_TEXT[1:], "(" + LENGTH_TEXT + ")", ")" + LENGTH_TEXT, LENGTH_TEXT + "(",
                       LENGTH_TEXT + "()", "()" + LENGTH_TEXT))

    def test_each_bracket_left_out_or_doubled(self):
        for text, program in SAMPLES:
            for place, sign in enumerate(text):
                if sign in "()":
                    self.no_texts((text[:place] + " " + text[place + 1:], text[:place] + sign + text[place:]))

    def test_numbers_that_are_none(self):
        words = ("00", "01", "007", "-0", "-00", "-01", "+1", "+0", "--1", "-+1", "+-1", "1-", "-", "+", "1.0", "1e3",
                 "0x1", "1_0", "1,2", "9" * 61, "-" + "9" * 61, "0" * 60, "0" * 61, "\u0663", "1\u0663", "\u00b2",
                 "\uff11", "1/2")
        for word in words:
            self.no_texts((with_body("(give " + word + ")"), with_body("(give (add n " + word + "))"),
                           with_body("(give xs)", "(list " + word + " 0 0 0)"),
                           with_body("(give xs)", "(list 0 0 " + word + " 0)")))

    def test_names_that_are_none(self):
        for word in ("nil", "leaf", "7", "-7", "0", "A", "aB", "Abc", "a1", "1a", "abcdefghi", "a_b", "a-b", "a.b",
                     "'a", "\u00e9", "a;", "()", "(a)", "9" * 61):
            self.no_texts((
                "(fn " + word + " ((n num)) (num 0 0) (give 0))",
                "(fn f ((" + word + " num)) (num 0 0) (give 0))",
                "(fn f ((n num) (" + word + " num)) (num 0 0 0) (give 0))",
                with_body("(let " + word + " 1 (give 0))"),
                with_body("(list " + word + " (give 0) (h r) (give 0))"),
                with_body("(list xs (give 0) (" + word + " r) (give 0))"),
                with_body("(list xs (give 0) (h " + word + ") (give 0))"),
                with_body("(tree " + word + " (give 0) (l v r) (give 0))"),
                with_body("(tree t (give 0) (" + word + " v r) (give 0))"),
                with_body("(tree t (give 0) (l " + word + " r) (give 0))"),
                with_body("(tree t (give 0) (l v " + word + ") (give 0))"),
                with_body("(give (call " + word + " 1 nil leaf))"),
            ))

    def test_words_that_are_none_as_expressions(self):
        for word in ("A", "aB", "Nil", "LEAF", "a1", "x2", "abcdefghi", "a_b", "a-b", "*", ";", "~", "!", "'n'",
                     "n,", "\u00e9"):
            self.no_texts((with_body("(give " + word + ")"), with_body("(give (add 1 " + word + "))"),
                           with_body("(let a " + word + " (give 0))"),
                           with_body("(less " + word + " 0 (give 0) (give 0))"),
                           with_body("(give (call f 1 nil " + word + "))")))

    def test_signs_that_are_none(self):
        for sign in ("\t", "\r", "\x0b", "\x0c", "\x00", "\x1f", "\x7f", "\x85", "\xa0", "\u2003", "\u2028", "\ufeff",
                     "\u00e9", "\U0001f600", "\ud800"):
            self.no_texts((sign, sign + LENGTH_TEXT, LENGTH_TEXT + sign, LENGTH_TEXT.replace(" ", sign),
                           LENGTH_TEXT.replace(" ", " " + sign + " "), LENGTH_TEXT.replace(")", sign + ")"),
                           LENGTH_TEXT.replace(" ", " " + sign, 1), LENGTH_TEXT + "\r\n"))

    def test_brackets_that_are_no_function(self):
        self.no_texts(NO_FUNCTIONS)
        for text in NO_FUNCTIONS:
            self.no_texts((LENGTH_TEXT + " " + text, text + " " + LENGTH_TEXT))

    def test_brackets_that_are_no_body(self):
        for body in NO_BODIES:
            self.no_texts((with_body(body), with_body("(let x 1 " + body + ")"),
                           with_body("(less 0 1 " + body + " (give 0))"), with_body("(less 0 1 (give 0) " + body + ")"),
                           with_body("(list xs " + body + " (x y) (give 0))"),
                           with_body("(list xs (give 0) (x y) " + body + ")"),
                           with_body("(tree t " + body + " (x y z) (give 0))"),
                           with_body("(tree t (give 0) (x y z) " + body + ")")))

    def test_brackets_that_are_no_expression(self):
        for part in NO_EXPRESSIONS:
            self.no_texts((with_body("(give " + part + ")"), with_body("(let a " + part + " (give 0))"),
                           with_body("(give (add 1 " + part + "))"), with_body("(give (cons " + part + " nil))"),
                           with_body("(less " + part + " 0 (give 0) (give 0))"),
                           with_body("(less 0 " + part + " (give 0) (give 0))"),
                           with_body("(give (call f " + part + " nil leaf))")))

    def test_shapes_that_are_none(self):
        for shape in ("x", "nums", "Num", "int", "nil", "leaf", "0", "1", "(num)", "()", "lists", "tre"):
            self.no_texts(("(fn f ((n " + shape + ")) (num 0 0) (give 0))",
                           "(fn f ((n num) (m " + shape + ")) (num 0 0 0) (give 0))",
                           "(fn f ((n num)) (" + shape + " 0 0) (give 0))"))
        for number in ("x", "nil", "leaf", "num", "(0)", "()"):
            self.no_texts(("(fn f ((n num)) (num 0 " + number + ") (give 0))",
                           "(fn f ((n num)) (num " + number + " 0) (give 0))"))

    def test_goes_ahead_of_no_program(self):
        self.no_texts((functions(9) + ")", functions(9) + " x", functions(8) + " (fn)", "  \t", " x ", " \n)",
                       "(fn f () (num) (give 01))", "(fn f () (num -1 -0) (give 0))", "(fn f () (num) ())",
                       "(fn f ((n num)) (num 0) (give 0)) \t", params(5) + "(fn g ((n num)) (num 0 0) (give (call)))",
                       with_body("(give (add nil -0))"), with_body("(give (add q Q))"), with_body("(let n 1 (give))")))


class NoPrograms(Refused):
    def test_no_function(self):
        self.no_programs(("", " ", "\n", "     ", " \n \n\n "))

    def test_too_many_functions(self):
        self.no_programs((functions(9), functions(10)))

    def test_how_many_params(self):
        for many in range(1, 5):
            self.assertEqual(len(read(params(many))[0][1]), many)
        self.no_programs((params(0), params(5), params(6), "(fn f () (num) (give 1))", "(fn f ( ) (num 0) (give 1))"))

    def test_numbers_of_a_size(self):
        for size in ("", " 0", " 0 0 0", " 0 0 0 0", " -1 0", " 0 -1", " 1 0", " 0 1"):
            self.no_programs(("(fn f ((n num)) (num" + size + ") (give 0))",))
        for size in ("", " 0", " 0 0 0", " 1 1 1", " -1 0", " 0 -1", " 0 -" + GREAT):
            self.no_programs(("(fn f ((xs list)) (list" + size + ") (give nil))",
                              "(fn f ((xs list)) (tree" + size + ") (give leaf))"))
        self.no_programs(("(fn f ((n num) (xs list)) (list 0 1 0) (give nil))",
                          "(fn f ((t tree) (n num)) (tree 1 1 2) (give leaf))",
                          "(fn f ((t tree)) (num 0 1) (give 0))"))

    def test_all_else_that_is_not_right(self):
        self.no_programs((
            functions(1) + functions(1), "(fn f ((a num) (a num)) (num 0 0 0) (give 0))",
            with_body("(let n 1 (give 0))"), with_body("(let a 1 (let a 2 (give 0)))"),
            with_body("(list xs (give 0) (h h) (give 0))"), with_body("(tree t (give 0) (l v l) (give 0))"),
            with_body("(list xs (give 0) (h t) (give 0))"), with_body("(list xs (give h) (h r) (give 0))"),
            with_body("(tree t (give v) (l v r) (give 0))"), with_body("(give q)"), with_body("(let a a (give 0))"),
            with_body("(give (call g 1 nil leaf))"), with_body("(give (call f))"), with_body("(give (call f 1 nil))"),
            with_body("(give (call f 1 nil leaf 1))"), with_body("(give (call f nil nil leaf))"),
            with_body("(list t (give 0) (h r) (give 0))"), with_body("(tree xs (give 0) (l v r) (give 0))"),
            with_body("(list q (give 0) (h r) (give 0))"), with_body("(less nil 1 (give 0) (give 0))"),
            with_body("(less 1 t (give 0) (give 0))"), with_body("(give (cons nil 1))", "(list 0 0 0 0)"),
            with_body("(give (node leaf leaf leaf))", "(tree 0 0 0 0)"), with_body("(give (add 1 nil))"),
            with_body("(give (sub leaf 1))"), with_body("(give nil)"), with_body("(give leaf)"),
            with_body("(give xs)"),
            with_body("(give 0)", "(list 0 0 0 0)"), with_body("(give 0)", "(tree 0 0 0 0)"), with_body("(give let)"),
        ))


class Showing(unittest.TestCase):
    def test_samples(self):
        for text, program in SAMPLES:
            self.assertEqual(show(program), text)
            self.assertEqual(show(program), text)
            self.assertEqual(read(show(program)), program)

    def test_one_blank_between_two_things(self):
        for text, program in SAMPLES:
            spread = text.replace("(", " (\n").replace(")", " )  ")
            self.assertEqual(show(read(spread)), text)

    def test_each_form(self):
        for body in ("(give 0)", "(give -5)", "(give -" + GREAT + ")", "(give n)", "(let a nil (give 0))",
                     "(let a leaf (give 0))", "(let a (cons 1 xs) (give 0))",
                     "(let a (node t 2 leaf) (give 0))", "(give (add n -1))", "(give (sub 5 n))",
                     "(give (call f 1 nil leaf))", "(less n 5 (give 0) (give n))",
                     "(list xs (give 0) (h r) (give h))", "(tree t (give 0) (l v r) (give v))"):
            text = with_body(body)
            self.assertEqual(show(read(text)), text)

    def test_many_programs_are_read_as_they_were_shown(self):
        chance = random.Random(8)
        for turn in range(300):
            program = any_program(chance)
            text = show(program)
            self.assertTrue(right(program), text)
            self.assertEqual(read(text), program)
            self.assertEqual(show(read(text)), text)
            self.assertNotRegex(text, r"  |\n|\( | \)|^ | $")

    def test_sizes(self):
        for gives in ("(list 0 0 0 0)", "(list 1 0 23 4)", "(list " + GREAT + " 0 " + GREAT + " 1)"):
            text = with_body("(give xs)", gives)
            self.assertEqual(show(read(text)), text)

    def test_eight_functions_of_four_params(self):
        text = " ".join(params(4).replace("fn f", "fn " + name) for name in "abcdefgh")
        self.assertEqual(show(read(text)), text)


if __name__ == "__main__":
    unittest.main()
