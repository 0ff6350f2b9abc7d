import random
import unittest
from fractions import Fraction

from tests.samples import any_value
from tests.tellers import ratio_of
from toll.args import read_arg, show_arg, show_ratio
from toll.errors import NoValue

GREAT = 10 ** 60 - 1

BOTH_WAYS = (
    ("num", "0", 0), ("num", "7", 7), ("num", "-7", -7), ("num", "10", 10), ("num", "9" * 60, GREAT),
    ("num", "-" + "9" * 60, -GREAT),
    ("list", "[]", ()), ("list", "[0]", (0,)), ("list", "[1,2,-3]", (1, 2, -3)), ("list", "[-1]", (-1,)),
    ("list", "[" + "9" * 60 + ",0]", (GREAT, 0)), ("list", "[" + ",".join(["5"] * 40) + "]", (5,) * 40),
    ("tree", ".", None), ("tree", "(.,5,.)", (None, 5, None)), ("tree", "(.,5,(.,7,.))", (None, 5, (None, 7, None))),
    ("tree", "((.,1,.),-2,(.,0,.))", ((None, 1, None), -2, (None, 0, None))),
    ("tree", "(((.,1,.),2,.),3,.)", (((None, 1, None), 2, None), 3, None)),
    ("tree", "(.,-" + "9" * 60 + ",.)", (None, -GREAT, None)),
)

NO_NUMS = (
    "", "-", "-0", "00", "01", "-01", "+1", "+0", "1.0", "1e3", " 1", "1 ", "1 2", "1\n", "\n1", "0x1", "1_0", "--1", "a",
    "True", "None", "\u0661", "\u00b2", "9" * 61, "-" + "9" * 61, "1" + "0" * 60, "1-", "1,2", "1,", ",",
)
NO_LISTS = (
    "", "[", "]", "[12", "12]", "[1,23", "12,3]", "[]]", "[[]", "[[]]", "[][]", "][", "[,]", "[1,]", "[,1]", "[1,,2]", "[1 ]", "[ 1]", "[1, 2]", "[ ]",
    " []", "[] ", "[1", "1]", "1", "1,2", "(1,2)", "()", "{}", "[1;2]", "[1.0]", "[[1]]", "[1],[2]", "[1]2", "2[1]",
    "[.]", "[]\n", "[1\n]", "[a]", "[]1", "nil", "[" + ",".join(["5"] * 41) + "]", "[" + ",".join(["5"] * 2000) + "]",
)
NO_TREES = (
    "", "..", "()", "(", ")", "(.", "(.)", "(.,)", "(.,5)", "(.,5,", "(.,5,.", "(.,5,.))", "((.,5,.)", "(.,5,.,.)", "(,5,)",
    "(,5,.)", "(.,5,)", "(.,,.)", "(.,.,.)", "(5,.,.)", "(.,5,.).", ".(.,5,.)", "(.,5,.)(.,5,.)", "(. ,5,.)", "(., 5,.)",
    "(.,5,. )", " (.,5,.)", "(.,5,.) ", ". ", " .", "(.;5;.)", "(. 5 .)", "(.,5,.]", "[.,5,.]", "leaf", "None", "5",
    "(.,5,5)", "(1,2,3)", "[]", "(.,5,[])", "((.,5,.),6)", "(.,5,(.,6,.)", "(.,5,.\n)", "(.5,.)", "(.,5.)", "(.,(.,5,.),.)",
    "((((", "." * 50, "(" * 41, "(" * 5000, "(.,1," * 5000, "(.,1," * 41 + "." + ")" * 41,
)


def leaning(many, left):
    if left:
        return "(" * many + "." + ",1,.)" * many
    return "(.,1," * many + "." + ")" * many


class Read(unittest.TestCase):
    def test_both_ways(self):
        for shape, text, value in BOTH_WAYS:
            with self.subTest(shape + " " + text):
                self.assertEqual(read_arg(shape, text), value)
                self.assertEqual(show_arg(shape, value), text)

    def refused(self, shape, text):
        with self.subTest(shape=shape, text=text):
            with self.assertRaises(NoValue):
                read_arg(shape, text)

    def test_other_shapes(self):
        for shape, text, value in BOTH_WAYS:
            for other in ("num", "list", "tree"):
                if other != shape:
                    self.refused(other, text)

    def test_what_is_no_text(self):
        for thing in (None, 0, 7, True, (), (1, 2), [], ["1"], {}, 1.5, b"1", b".", object(), (None, 1, None)):
            for shape in ("num", "list", "tree"):
                self.refused(shape, thing)

    def test_nums(self):
        for text in NO_NUMS:
            self.refused("num", text)

    def test_numbers_within_others(self):
        for text in NO_NUMS:
            # What is no number by itself may be two of them in a list.
            if "," not in text and text != "":
                self.refused("list", "[" + text + "]")
                self.refused("list", "[1," + text + "]")
                self.refused("list", "[" + text + ",1]")
            self.refused("tree", "(.," + text + ",.)")
            self.refused("tree", "((.," + text + ",.),1,.)")

    def test_lists(self):
        for text in NO_LISTS:
            self.refused("list", text)

    def test_trees(self):
        for text in NO_TREES:
            self.refused("tree", text)

    def test_forty_are_read_and_forty_one_not(self):
        for many in (39, 40):
            self.assertEqual(read_arg("list", "[" + ",".join(["1"] * many) + "]"), (1,) * many)
            for left in (True, False):
                self.assertEqual(show_arg("tree", read_arg("tree", leaning(many, left))), leaning(many, left))
        self.refused("list", "[" + ",".join(["1"] * 41) + "]")
        for left in (True, False):
            self.refused("tree", leaning(41, left))
            self.refused("tree", leaning(3000, left))
        full = "."
        for deep in range(5):
            full = "(" + full + ",1," + full + ")"
        self.assertEqual(show_arg("tree", read_arg("tree", full)), full)
        self.refused("tree", "(" + full + ",1," + full + ")")

    def test_many(self):
        chance = random.Random(71)
        for turn in range(200):
            for shape in ("num", "list", "tree"):
                value = any_value(chance, shape, 40)
                self.assertEqual(read_arg(shape, show_arg(shape, value)), value)


class Show(unittest.TestCase):
    def test_more_than_is_read_is_shown(self):
        self.assertEqual(show_arg("list", (1,) * 100), "[" + ",".join(["1"] * 100) + "]")
        tree = None
        for turn in range(100):
            tree = (tree, 1, None)
        self.assertEqual(show_arg("tree", tree), leaning(100, True))
        self.assertEqual(show_arg("num", 10 ** 300), "1" + "0" * 300)

    def test_ratios(self):
        for number, due in ((7, "7"), (-7, "-7"), (0, "0"), (Fraction(-7, 2), "-7/2"), (Fraction(7, 2), "7/2"),
                            (Fraction(1, GREAT), "1/" + "9" * 60), (GREAT, "9" * 60), (Fraction(2, 4), "1/2")):
            self.assertEqual(show_ratio(ratio_of(number)), due)


if __name__ == "__main__":
    unittest.main()
